/-
  Layer 17: readFile, to its end.
-/
import Derived.Test.YtmjflbleobmjdaaGreatDoorRfl
namespace Go.Proofs.YtmjflbleobmjdaaGreatDoor
set_option linter.unusedVariables false
set_option linter.unusedSimpArgs false
open Go.ChangeShapes Go.WideShapes Go.ChangeAt Go.RowKit
attribute [local go_sem ↓] loadSec_seal storeSec_seal eqlSec_seal zeroSec
attribute [local go_sem] loadSec_run storeSec_run rowAt_at rowAt_old rowAt_drew rowAt_drewN roomSec_new roomAt_old roomAt_drew roomAt_drewN putSec_new putRow_past rowSec_put size_put putRow_drew putRow_drewN alloc_drewN setCell_drewN sec_size

set_option linter.unusedVariables false

theorem infoFl : ∃ i : TypeInfo, Tryz.prog.info? 54 = some i ∧ i.zero = some (.agg #[.string ⟨#[]⟩, .int .i64 0, .int .i64 0, .slice none 0 0]) ∧ i.bytes = 56 ∧ i.size = 4 := by
  have h : (match Tryz.prog.info? 54 with | some i => decide (i.bytes = 56) && decide (i.size = 4) | none => false) = true := by kernel_rfl
  have h2 : (Tryz.prog.info? 54).bind (·.zero) = some (.agg #[.string ⟨#[]⟩, .int .i64 0, .int .i64 0, .slice none 0 0]) := by kernel_rfl
  cases hi : Tryz.prog.info? 54 with
  | none => rw [hi] at h; cases h
  | some i =>
    rw [hi] at h h2
    simp only [Bool.and_eq_true, decide_eq_true_eq] at h
    exact ⟨i, rfl, h2, h.1, h.2⟩
/-- One file put behind a row of the call's own. -/
theorem app_file {Y : World} {B : Nat} {fv : Value} {L : List Fm} (m : Fm) (h : OwF Y B fv L) (hB : B ≤ Y.heap.size) (hn : L.length ≤ 900) (h1 : m.sv.oneCell' = true) (hB0 : 0 < B) :
    ∃ g n c Z, (appN #[48, 48] 48 #[fv, .slice (some ⟨Y.heap.size, 0, none⟩) 1 1]).run Tryz.prog (Y.alloc (.cells m.cs.toArray 54)).drew = .ok (.slice (some ⟨g, 0, none⟩) n c) Z ∧ OwF Z B (.slice (some ⟨g, 0, none⟩) n c) (L ++ [m]) ∧ (Y.alloc (.cells m.cs.toArray 54)).grownBy Z fv.ownBlock ∧ (fv.ownBlock = some g ∨ g = Y.heap.size + 1) := by
  obtain ⟨i0, hi0, hz0, hb0, hs0⟩ := infoFl
  have ho : (Y.alloc (.cells m.cs.toArray 54)).drew.ownsRow B 54 4 fv L.length (filesC L) := own_same h fun x hx => Below.heap_alloc _ _ _ (h.lt x hx).2
  obtain ⟨v', Z, hr, ho2, hg, _, hat⟩ := run_append_own_at (P := Tryz.prog) (Y.alloc (.cells m.cs.toArray 54)).drew B 48 48 54 i0 _ 4 56 Tryz.underlying48 hi0 hz0 hs0 hb0 rfl (by decide) fv L.length (filesC L) ho ⟨Y.heap.size, 0, none⟩ 1 1 m.cs (by simp [Fm.cs]) (fun j u hj => by
      rw [Addr.add_mid, Nat.zero_add, World.cell?_drew]
      rw [cell_of_row _ _ _ m.cs.toArray 54 (0, 0) (heap_alloc_last Y _)]
      simpa using hj) (by
      intro u hu
      simp only [Fm.cs, List.mem_cons, List.not_mem_nil, or_false] at hu
      rcases hu with rfl | rfl | rfl | rfl
      · rfl
      · rfl
      · rfl
      · exact h1) (by unfold maxLen; omega) (by omega) (by simp; omega)
  have ho3 : OwF Z B v' (L ++ [m]) := by
    unfold OwF
    rw [List.length_append, filesC_app]
    simpa [filesC] using ho2
  rcases ho3.cases with ⟨_, h0⟩ | ⟨g, c, cur, rfl, _⟩
  · simp at h0
  · refine ⟨g, _, c, Z, hr, ho3, ⟨hg.os, hg.tape, hg.output, hg.size, hg.block⟩, ?_⟩
    rcases hat with e | e
    · exact .inl (e.symm.trans rfl)
    · right
      have : some g = some (Y.alloc (.cells m.cs.toArray 54)).drew.heap.size := e
      have h2 := Option.some.inj this
      rw [h2]; simp
theorem RdX.append {B0 n1 x d : Nat} {D : Dk} {lv fv rv : Value} {ls : List Int} {L : List Fm} {u : Nat → Nat} {Y Z : World} {m : Fm} {g n c : Nat} {o : Obj} (h : RdX B0 n1 x d D lv ls L u fv rv Y) (hm : RowI (AX B0 x fv) Y m.sv m.f.sec)
    (ho : OwF Z n1 (.slice (some ⟨g, 0, none⟩) n c) (L ++ [m])) (hg : (Y.alloc o).grownBy Z fv.ownBlock) (hat : fv.ownBlock = some g ∨ g = Y.heap.size + 1) :
    RdX B0 n1 x d D lv ls (L ++ [m]) u (.slice (some ⟨g, 0, none⟩) n c) rv (Z.setCell ⟨x, 1, none⟩ (.slice (some ⟨g, 0, none⟩) n c)) := by
  have hx : x < Y.heap.size := Nat.lt_of_lt_of_le h.xn h.big
  have sz : Y.heap.size + 1 ≤ Z.heap.size := by have := hg.size; simpa using this
  have fx : fv.ownBlock ≠ some x := fun e => by have := (h.fs.lt x e).1; have := h.xn; omega
  have hgx : g ≠ x := by
    rcases hat with e | e
    · exact fun e2 => fx (e2 ▸ e)
    · omega
  have old : ∀ b, b < Y.heap.size → fv.ownBlock ≠ some b → Z.heap[b]? = Y.heap[b]? := fun b hb hne => (hg.block b (by simp; omega) (fun e => hne e.symm)).trans (Below.heap_alloc _ _ _ hb)
  have hk : ∀ b, AX B0 x fv b → b < Y.heap.size → (Z.setCell ⟨x, 1, none⟩ (.slice (some ⟨g, 0, none⟩) n c)).heap[b]? = Y.heap[b]? := fun b hb hlt => (Below.heap_setCell _ _ _ _ hb.2.1).trans (old b hlt hb.2.2)
  have hs : Y.heap.size ≤ (Z.setCell ⟨x, 1, none⟩ (.slice (some ⟨g, 0, none⟩) n c)).heap.size := by simp; omega
  have move : ∀ {v : Value} {l : List Int}, RowI (AX B0 x fv) Y v l → RowI (AX B0 x (.slice (some ⟨g, 0, none⟩) n c)) (Z.setCell ⟨x, 1, none⟩ (.slice (some ⟨g, 0, none⟩) n c)) v l := fun {v l} hr => by
    have hr2 := hr.keep hs hk
    obtain ⟨hl, a, cc, e, h1, h2, h3⟩ := hr
    obtain ⟨_, a2, cc2, e2, _, _, h4⟩ := hr2
    refine ⟨hl, a, cc, e, h1, h2, fun hne => ?_⟩
    obtain ⟨b, off, ea, hA, hb, hc⟩ := h3 hne
    obtain ⟨b2, off2, ea2, hA2, hb2, hc2⟩ := h4 hne
    rw [e] at e2
    injection e2 with q1 q2 q3
    rw [q1, ea2] at ea
    injection ea with ea
    injection ea with p1 p2 _
    subst p1 p2
    refine ⟨b2, off2, q1.trans ea2, ⟨hA.1, hA.2.1, fun e => ?_⟩, hb2, hc2⟩
    have e : g = b2 := Option.some.inj (show some g = some b2 from e)
    rcases hat with e3 | e3
    · exact hA.2.2 (e ▸ e3)
    · omega
  obtain ⟨⟨f1, f2⟩, _⟩ := five_set ((rowAt_same (old x hx fx)).trans h.blk) ((roomAt_same (old x hx fx)).trans h.room) (.slice (some ⟨g, 0, none⟩) n c)
  exact {
    blk := f1
    room := f2
    b0 := h.b0
    xn := h.xn
    big := Nat.le_trans h.big hs
    fs := ho.same fun y hy => by
      have e : g = y := Option.some.inj (show some g = some y from hy)
      subst e
      exact Below.heap_setCell _ _ _ _ hgx
    nilf := fun h0 => by simp at h0
    secs := fun q hq => by
      rcases List.mem_append.1 hq with hq | hq
      · exact move (h.secs q hq)
      · obtain rfl := List.mem_singleton.1 hq
        exact move hm
    free := move h.free
    leaves := move h.leaves }
/-- Behind claim: nothing but the directory's own block has turned. -/
theorem RdX.tou {B0 n1 x d : Nat} {D : Dk} {lv fv rv : Value} {ls : List Int} {L : List Fm} {u : Nat → Nat} {X Y : World} {v : Value} {l : List Int} (h : RdX B0 n1 x d D lv ls L u fv rv X) (hr : RowI (AX B0 x fv) X v l) (ht : Tou (fun y => y = x) X Y) : RowI (AX B0 x fv) Y v l := hr.keep ht.size fun b hb hlt => ht.block b hlt hb.2.1
end Go.Proofs.YtmjflbleobmjdaaGreatDoor
