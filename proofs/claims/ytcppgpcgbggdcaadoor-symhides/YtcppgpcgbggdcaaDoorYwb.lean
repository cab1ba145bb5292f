/-
  Layer 13: what the writer's loops need: marks among the deferred calls, what is written of each thing, bits.
-/
import Derived.Test.YtcppgpcgbggdcaaDoorYwy
import Derived.Stop.RegionWithIn
namespace Go.Proofs.YtcppgpcgbggdcaaDoor
set_option linter.unusedVariables false
set_option linter.unusedSimpArgs false
open Go.ChangeShapes Go.WideShapes Go.ChangeAt Go.RowKit Go.Shelf
attribute [local go_sem] Oper.semAt_some
attribute [local go_sem ↓] ldC_seal stC_seal ldV_seal stV_seal ldP_seal stP_seal

theorem SI.putObj {w X : World} {p B k : Nat} {c : Sc} {l : List Int} (h : SI w X p B c l) (ok : Off X p k) (h0 : k ≠ w.heap.size) (h1 : k ≠ w.heap.size + 1) (hw : w.heap.size ≤ k) (o : Obj) : SI w (X.putObj k o) p B c l := by
  have hp : (X.putObj k o).heap[p]? = X.heap[p]? := World.putObj_heap_other (Ne.symm ok.2.1)
  have pg := grownBy_putObj' X k o
  refine ⟨h.wr.putObj ok.2.1 ok.2.2 o, ⟨pg.os.trans h.wk.os, pg.tape.trans h.wk.tape, pg.output.trans h.wk.output, Nat.le_trans h.wk.size (by simp), fun j hj hjp hf => ?_⟩, (World.putObj_heap_other (Ne.symm h0)).trans h.b0, ⟨by simpa using h.o0.1, h.o0.2.1, wf_same h.o0.2.2 hp⟩, (World.putObj_heap_other (Ne.symm h1)).trans h.b1, ⟨by simpa using h.o1.1, h.o1.2.1, wf_same h.o1.2.2 hp⟩⟩
  obtain ⟨g1, g2⟩ := h.wk.blk j hj hjp hf
  exact ⟨(World.putObj_heap_other (by omega)).trans g1, wf_same g2 hp⟩
theorem Wk.putNew {w X : World} {p k : Nat} (h : Wk w X p) (ok : Off X p k) (hw : w.heap.size ≤ k) (o : Obj) : Wk w (X.putObj k o) p := by
  have hp : (X.putObj k o).heap[p]? = X.heap[p]? := World.putObj_heap_other (Ne.symm ok.2.1)
  have pg := grownBy_putObj' X k o
  refine ⟨pg.os.trans h.os, pg.tape.trans h.tape, pg.output.trans h.output, Nat.le_trans h.size (by simp), fun j hj hjp hf => ?_⟩
  obtain ⟨g1, g2⟩ := h.blk j hj hjp hf
  exact ⟨(World.putObj_heap_other (by omega)).trans g1, wf_same g2 hp⟩
/-- At, whatever the record says. -/
structure At2 (X : World) (p B g b0 lo : Nat) (ty : TypeId) (cs : Array Value) (l : List Int) : Prop where
  wr : Wr X p B l
  bx : BA X g ty cs
  ox : Off X p g
  bp : BA X b0 73 #[.pointer (some ⟨p, 0, none⟩)]
  o0 : Off X p b0
  lp : ∃ r, X.heap[lo]? = some (.loop r)
  ol : Off X p lo
theorem At.two {X : World} {p B g b0 lo : Nat} {ty : TypeId} {cs : Array Value} {r : Loop} {l : List Int} (h : At X p B g b0 lo ty cs r l) : At2 X p B g b0 lo ty cs l := ⟨h.wr, h.bx, h.ox, h.bp, h.o0, ⟨_, h.lp⟩, h.ol⟩
theorem At2.next {X Y : World} {p B g b0 lo : Nat} {ty : TypeId} {cs : Array Value} {l l2 : List Int} (h : At2 X p B g b0 lo ty cs l) (hw : Wr Y p B l2) (hk : Wk X Y p) : At2 Y p B g b0 lo ty cs l2 :=
  ⟨hw, (h.ox.keep hk).1.trans h.bx, (h.ox.keep hk).2, (h.o0.keep hk).1.trans h.bp, (h.o0.keep hk).2, h.lp.imp fun r hr => (h.ol.keep hk).1.trans hr, (h.ol.keep hk).2⟩
theorem RdO.past {W X : World} {p k lo n : Nat} {s : Sl} {cs : List Value} {r : Loop} (h : RdO W p k s n cs) (hk : 0 < k) (hl : W.heap[lo]? = some (.loop r)) (hp : p ≠ lo) (hpw : p < W.heap.size) (hs : W.heap.size ≤ X.heap.size) (hb : ∀ j, j < W.heap.size → j ≠ lo → X.heap[j]? = W.heap[j]?) : RdO X p k s n cs := by
  rcases Nat.eq_zero_or_pos n with hn | hn
  · exact ⟨⟨h.rd.len, h.rd.all, h.rd.most, .inl hn⟩, .inl hn⟩
  · rcases h.rd.at_ with h0 | ⟨g, off, h1, h2, h3⟩
    · omega
    · have hc : 0 < cs.length := by rw [h.rd.all]; exact Nat.mul_pos hn hk
      have hne : g ≠ lo := by
        rintro rfl
        have c := h3 0 _ (List.getElem?_eq_getElem hc)
        simp [World.cell?, hl] at c
      refine ⟨⟨h.rd.len, h.rd.all, h.rd.most, .inr ⟨g, off, h1, by omega, fun j u hu => (World.cell?_of_block (a := ⟨g, off + j, none⟩) (hb g h2 hne)).trans (h3 j u hu)⟩⟩, .inr fun ad he => ?_⟩
      rw [h1] at he
      injection he with he
      subst he
      rcases h.off with h0 | h4
      · omega
      · have := h4 _ h1
        exact ⟨by show g < _; omega, this.2.1, wf_same this.2.2 (hb p hpw hp)⟩
theorem bl_drew (X : World) : Below X.heap.size X X.drew := ⟨rfl, rfl, rfl, Nat.le_refl _, fun _ _ => rfl⟩
/-- A mark among the deferred calls, in a block that the writer leaves. -/
def Mk (W : World) (p d : Nat) : Prop := W.heap[d]? = some (.deferred (some [])) ∧ Off W p d
theorem Mk.keep {W W' : World} {p d : Nat} (h : Mk W p d) (hk : Wk W W' p) : Mk W' p d := ⟨(h.2.keep hk).1.trans h.1, (h.2.keep hk).2⟩
theorem Off.putObj {W : World} {p d k : Nat} (h : Off W p d) (hp : k ≠ p) (o : Obj) : Off (W.putObj k o) p d := ⟨by simpa using h.1, h.2.1, wf_same h.2.2 (World.putObj_heap_other (Ne.symm hp))⟩
theorem Mk.putObj {W : World} {p d k : Nat} (h : Mk W p d) (hd : d ≠ k) (hp : k ≠ p) (o : Obj) : Mk (W.putObj k o) p d := ⟨(World.putObj_heap_other hd).trans h.1, h.2.putObj hp o⟩
def varL (v : Vr) : List Int := textL v.nm ++ [v.fm] ++ numL 4 v.ln
def bitsI (v : Vr) : Int := (if v.op then 1 else 0) + (if v.rf then 2 else 0)
def parL (v : Vr) : List Int := [v.fm, bitsI v]
def prcL (q : Pc × Sl) : List Int := textL q.1.nm ++ numL 4 (q.1.ps.length : Int) ++ sumL parL q.1.ps q.1.ps.length ++ [q.1.rs]
def symL (o : Sy) (ls : List (Pc × Sl)) : List Int := textL o.nm ++ numL 4 (o.cs.length : Int) ++ sumL consL o.cs o.cs.length ++ numL 4 (o.vs.length : Int) ++ sumL varL o.vs o.vs.length ++ numL 4 (ls.length : Int) ++ sumL prcL ls ls.length
theorem sumL_par (xs : List Vr) : ∀ i, i ≤ xs.length → (sumL parL xs i).length = 2 * i
  | 0, _ => by simp [sumL]
  | i + 1, h => by rw [sumL_succ _ _ _ (by omega), List.length_append, sumL_par xs i (by omega)]; simp [parL]; omega
theorem bitsOf_any (v : Vr) (w : World) : Calls Tryd.prog 64 #[.agg (vEnc v)] w fun e w' => e = .returned (.int .i64 (bitsI v)) ∧ Below w.heap.size w w' := by
  have b0 := BA.new w 69 (vEnc v)
  have c3 : (w.alloc (.cells (vEnc v) 69)).cell? ⟨w.heap.size, 3, none⟩ = some (.bool v.op) := b0.cell 3
  have c4 : (w.alloc (.cells (vEnc v) 69)).cell? ⟨w.heap.size, 4, none⟩ = some (.bool v.rf) := b0.cell 4
  obtain ⟨nm, fm, ln, op, rf⟩ := v
  unfold vEnc bitsI at *
  dsimp only at *
  clear b0
  cases op <;> cases rf
  · go_enter Tryd.func64, Tryd.ntmps64
    go_wp2
    go_ret
    exact ⟨rfl, by go_grown⟩
  · go_enter Tryd.func64, Tryd.ntmps64
    go_wp2
    go_ret
    exact ⟨rfl, by go_grown⟩
  · go_enter Tryd.func64, Tryd.ntmps64
    go_wp2
    go_ret
    exact ⟨rfl, by go_grown⟩
  · go_enter Tryd.func64, Tryd.ntmps64
    go_wp2
    go_ret
    exact ⟨rfl, by go_grown⟩
theorem bitsI_bd (v : Vr) : 0 ≤ bitsI v ∧ bitsI v ≤ 3 := by
  unfold bitsI
  cases v.op <;> cases v.rf <;> simp
end Go.Proofs.YtcppgpcgbggdcaaDoor
