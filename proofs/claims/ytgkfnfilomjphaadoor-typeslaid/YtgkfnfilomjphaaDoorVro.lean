/-
  Layer 11: a row while it is read, in memory of the call's own.
-/
import Derived.Test.YtgkfnfilomjphaaDoorVpc
import Derived.Test.YtgkfnfilomjphaaDoorVgr
namespace Go.Proofs.YtgkfnfilomjphaaDoor
set_option linter.unusedVariables false
set_option linter.unusedSimpArgs false
open Go.ChangeShapes Go.WideShapes Go.ChangeAt Go.RowKit Go.Maps

structure RwO (w0 X : World) (b : Nat) (c : Rc) (L T : List Tt) (M : List Value) (g : Nat) : Prop where
  be : Below w0.heap.size w0 X
  li : RdV w0 7 c.li L.length (flat ttE L)
  lf : ∀ t ∈ L, RdV w0 3 t.sl t.fs.length (flat fdE t.fs)
  bx : BA X b 56 (rcE c)
  bb : w0.heap.size ≤ b
  ty : X.ownsRow w0.heap.size 31 7 (.slice c.ty.a c.ty.n c.ty.c) T.length (flat ttE T)
  al : X.ownsRow w0.heap.size 3 1 (.slice c.al.a c.al.n c.al.c) T.length (flat iE (alL T))
  na : X.ownsRow w0.heap.size 76 1 (.slice c.na.a c.na.n c.na.c) (L.length + 1) (flat vE M)
  ns : c.na.a = some ⟨g, 0, none⟩
  mp : ∀ k (hk : k < M.length) (h2 : k < T.length), T[k].fm = 10 → ∃ m, M[k] = .map (some m) ∧ MapIs X m (seenL (nmL T[k]).reverse)
  fs : ∀ t ∈ T, X.ownsRow w0.heap.size 33 3 (.slice t.sl.a t.sl.n t.sl.c) t.fs.length (flat fdE t.fs)
  fnd : Fnd L T
section
variable {w0 X Y : World} {b : Nat} {c : Rc} {L T : List Tt} {M M' : List Value} {g : Nat}
theorem RwO.ml (h : RwO w0 X b c L T M g) : M.length = L.length + 1 := by
  have := h.na.1
  rw [flat_len vE 1 (fun _ => rfl)] at this
  omega
theorem RwO.llen (h : RwO w0 X b c L T M g) : L.length ≤ 140737488355328 := h.li.most
theorem RwO.tlen (h : RwO w0 X b c L T M g) : T.length ≤ L.length := h.fnd.le
theorem RwO.rw (h : RwO w0 X b c L T M g) : RwR X b c L T (alL T) := ⟨h.bx, h.li.below h.be, own_rdv h.ty (by have := h.tlen; have := h.llen; omega), by have := own_rdv h.al (by have := h.tlen; have := h.llen; omega); rwa [alL_len], alL_len T⟩
theorem RwO.nmr (h : RwO w0 X b c L T M g) (hl : L.length < 140737488355328) : NmR X b c T M := ⟨by have := own_rdv h.na (by omega); rwa [← h.ml] at this, by have := h.ml; have := h.tlen; omega, h.mp⟩
theorem RwO.ng (h : RwO w0 X b c L T M g) : (Value.slice c.na.a c.na.n c.na.c).ownBlock = some g := by rw [h.ns]; rfl
theorem own_blk {B e k n : Nat} {v : Value} {xs : List Value} (h : X.ownsRow B e k v n xs) {q : Nat} (hq : v.ownBlock = some q) : ∃ cs t fr, X.heap[q]? = some (.cells cs t fr) := by
  rcases h.2 with ⟨hv, _⟩ | ⟨g, cap, cur, hv, _, hb, _⟩
  · rw [hv] at hq; cases hq
  · rw [hv] at hq
    injection hq with hq
    simp only at hq
    subst hq
    exact ⟨_, _, _, hb⟩
theorem map_blk {m : Nat} {N : List (Bs × Value)} (h : MapIs X m N) : ∃ es k, X.heap[m]? = some (.map es k) := by
  obtain ⟨D, ⟨es, k, h1, h2⟩, h3⟩ := h.own
  exact ⟨_, _, h1⟩
theorem map_ne {m q : Nat} {N : List (Bs × Value)} (h : MapIs X m N) (hq : ∃ cs t fr, X.heap[q]? = some (.cells cs t fr)) : m ≠ q := by
  rintro rfl
  obtain ⟨es, k, h1⟩ := map_blk h
  obtain ⟨cs, t, fr, h2⟩ := hq
  rw [h1] at h2
  cases h2
theorem RwO.any (h : RwO w0 X b c L T M g) (t : Tq X Y (fun k => k = g)) (hna : Y.ownsRow w0.heap.size 76 1 (.slice c.na.a c.na.n c.na.c) (L.length + 1) (flat vE M')) (hk : ∀ k, k < T.length → M'[k]? = M[k]?) : RwO w0 Y b c L T M' g := by
  have hgB : w0.heap.size ≤ g := own_lo h.na g h.ng
  have hml : M'.length = L.length + 1 := by
    have := hna.1
    rw [flat_len vE 1 (fun _ => rfl)] at this
    omega
  refine ⟨⟨t.os.trans h.be.os, t.tape.trans h.be.tape, t.output.trans h.be.output, Nat.le_trans h.be.size t.size, fun k hk => (t.blk k (Nat.lt_of_lt_of_le hk h.be.size) (by omega)).trans (h.be.block k hk)⟩, h.li, h.lf, h.bx.tq t (fun e => own_boxH h.na h.bx (by decide) h.ng e.symm), h.bb, t.own h.ty (fun q hq e => own_two h.ty h.na (by decide) (e ▸ hq) h.ng), t.own h.al (fun q hq e => own_two h.al h.na (by decide) (e ▸ hq) h.ng), hna, h.ns, ?_, fun x hx => t.own (h.fs x hx) (fun q hq e => own_two (h.fs x hx) h.na (by decide) (e ▸ hq) h.ng), h.fnd⟩
  intro k hk1 h2 hf
  have hkM : k < M.length := by rw [h.ml]; have := h.tlen; omega
  obtain ⟨m, h3, h4⟩ := h.mp k hkM h2 hf
  have e := hk k h2
  rw [List.getElem?_eq_getElem hk1, List.getElem?_eq_getElem hkM] at e
  injection e with e
  exact ⟨m, e.trans h3, h4.block (t.blk m h4.lt (map_ne h4 (own_blk h.na h.ng)))⟩
theorem RwO.call (h : RwO w0 X b c L T M g) (hb : Below X.heap.size X Y) : RwO w0 Y b c L T M g := h.any (Tq.below hb) (own_belowH h.na hb) (fun _ _ => rfl)
theorem RwO.keep (h : RwO w0 X b c L T M g) (t : Tq X Y (fun k => k = g)) (hb : Y.heap[g]? = X.heap[g]?) : RwO w0 Y b c L T M g := by
  have t2 : Tq X Y (fun _ => False) := ⟨t.os, t.tape, t.output, t.size, fun k hk _ => by
    by_cases e : k = g
    · rw [e]; exact hb
    · exact t.blk k hk e⟩
  exact h.any t (t2.own h.na (fun _ _ e => e)) (fun _ _ => rfl)
theorem flat_vE : ∀ M : List Value, flat vE M = M
  | [] => rfl
  | x :: r => by
    have : flat vE (x :: r) = (vE x).toList ++ flat vE r := rfl
    rw [this, flat_vE r]
    rfl
theorem RwO.put (h : RwO w0 X b c L T M g) (t : Tq X Y (fun k => k = g)) {m : Nat} (hb : Y.heap[g]? = (X.setCell ⟨g, T.length, none⟩ (.map (some m))).heap[g]?) : RwO w0 Y b c L T (M.set T.length (.map (some m))) g := by
  have hn := h.na
  have hcn : c.na.n = L.length + 1 := by
    rcases hn.2 with ⟨hv, h0⟩ | ⟨g1, cap, cur, hv, _⟩
    · omega
    · injection hv
  rw [h.ns, hcn, flat_vE] at hn
  have hs := (hn.stored T.length (.map (some m))).1
  refine h.any t ?_ (fun k hk => by rw [List.getElem?_set]; rw [if_neg (by omega)])
  rw [h.ns, hcn, flat_vE]
  rcases hs.2 with ⟨hv, h0⟩ | ⟨g1, cap, cur, hv, h1, h2, h3⟩
  · cases hv
  · refine ⟨hs.1, .inr ⟨g1, cap, cur, hv, h1, ?_, h3⟩⟩
    injection hv with e1 e2 e3
    injection e1 with e1
    injection e1 with e1 _ _
    rw [← e1] at h2 ⊢
    exact hb.trans h2
end
end Go.Proofs.YtgkfnfilomjphaaDoor
