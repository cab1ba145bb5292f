/-
  Layer 9: rows of trees of a sort, that grow.
-/
import Derived.Test.YtejcjhoojpoamaaDoorCal
import Derived.Test.YtejcjhoojpoamaaDoorDex
namespace Go.Proofs.YtejcjhoojpoamaaDoor
set_option linter.unusedVariables false
set_option linter.unusedSimpArgs false
open Go.ChangeShapes Go.WideShapes Go.ChangeAt Go.RowKit
attribute [local go_sem ↓] loadTk_seal storeTk_seal loadKeys_seal loadSigns_seal
attribute [local go_sem] loadTk_run storeTk_run rowAt_at rowAt_old rowAt_drew rowAt_drewN roomTk_new roomAt_old roomAt_drew roomAt_drewN putTk_new Tk.fold putRow_past rowTk_put size_put putRow_drew putRow_drewN alloc_drewN setCell_drewN Tk.at0 Tk.at1 Tk.at2 Tk.at3 Tk.size Tk.set0 Tk.set1 Tk.set2 Tk.set3 Tk.ne rowAt_set rowAt_far roomAt_far
attribute [local go_sem ↓] loadNd_seal storeNd_seal
attribute [local go_sem] loadNd_run storeNd_run roomNd_new putNd_new Nc.fold rowNd_put Nc.at0 Nc.at1 Nc.at2 Nc.at3 Nc.at4 Nc.at5 Nc.size Nc.set0 Nc.set1 Nc.set2 Nc.set3 Nc.set4 Nc.set5 Nc.ne

structure Rq (X : World) (B : Nat) (Q : Nat → Prop) (v : Value) (l : List Nd) (cs : List Nc) : Prop where
  len : cs.length = l.length
  own : X.ownsRow B 25 6 v cs.length (ndC cs)
  blk : ∀ q, v.ownBlock = some q → Q q
  nds : ∀ j (h : j < cs.length) (h2 : j < l.length), NdAt X (fun x => Q x ∧ v.ownBlock ≠ some x) cs[j] l[j]
theorem own_keep {X Y : World} {B : Nat} {e : TypeId} {k : Nat} {v : Value} {n : Nat} {xs : List Value} (h : X.ownsRow B e k v n xs) (hk : ∀ q, v.ownBlock = some q → Y.heap[q]? = X.heap[q]?) : Y.ownsRow B e k v n xs := by
  refine ⟨h.1, ?_⟩
  rcases h.2 with hn | ⟨g, cap, cur, hv, hb1, hg1, rest⟩
  · exact .inl hn
  · exact .inr ⟨g, cap, cur, hv, hb1, (hk g (by rw [hv]; rfl)).trans hg1, rest⟩
theorem Rq.keep {X Y : World} {B : Nat} {Q : Nat → Prop} {v : Value} {l : List Nd} {cs : List Nc} (h : Rq X B Q v l cs) (hs : X.heap.size ≤ Y.heap.size) (hk : ∀ x, Q x → x < X.heap.size → Y.heap[x]? = X.heap[x]?) : Rq Y B Q v l cs :=
  ⟨h.len, own_keep h.own (fun q hq => hk q (h.blk q hq) (own_lt' h.own hq).1), h.blk, fun j h1 h2 => (h.nds j h1 h2).keep (fun _ hx _ => hx) hs (fun x hx hl => hk x hx.1 hl)⟩
theorem Rq.gb {X Y : World} {B b : Nat} {Q : Nat → Prop} {v : Value} {l : List Nd} {cs : List Nc} (h : Rq X B Q v l cs) (hb : ∀ x, Q x → x ≠ b) (hg : X.grownBy Y (some b)) : Rq Y B Q v l cs :=
  h.keep hg.size (fun x hx hl => hg.block x hl (fun e => by injection e with e; exact hb x hx e))
theorem Rq.call {X Y : World} {B : Nat} {Q : Nat → Prop} {v : Value} {l : List Nd} {cs : List Nc} (h : Rq X B Q v l cs) (hb : Below X.heap.size X Y) : Rq Y B Q v l cs :=
  h.keep hb.size (fun x hx hl => hb.block x hl)
/-- An append of one node, whatever it is. -/
theorem own_app {X : World} {B : Nat} {v : Value} {cs : List Nc} (h : X.ownsRow B 25 6 v cs.length (ndC cs)) (hB : B ≤ X.heap.size) {a : Nat} {c : Nc} (ha : X.heap[a]? = some (.cells c.cells 25 (0, 0))) (hm : cs.length ≤ 200000) :
    ∃ g cp Y, (appN #[23, 23] 23 #[v, .slice (some ⟨a, 0, none⟩) 1 1]).run Tryd.prog X = .ok (.slice (some ⟨g, 0, none⟩) (cs.length + 1) cp) Y ∧ Y.ownsRow B 25 6 (.slice (some ⟨g, 0, none⟩) (cs.length + 1) cp) (cs.length + 1) (ndC (cs ++ [c])) ∧ X.grownBy Y v.ownBlock ∧ (v.ownBlock = some g ∨ g = X.heap.size) := by
  obtain ⟨i0, hi0, hz0, hz1, hz2⟩ := info_parts infoNd
  have cells : ∀ j u, c.cells.toList[j]? = some u → X.cell? ((⟨a, 0, none⟩ : Addr).add j) = some u := fun j u hj => by
    rw [show (⟨a, 0, none⟩ : Addr).add j = ⟨a, j, none⟩ by simp [Addr.add]; omega]
    simp only [World.cell?, ha]
    simpa using hj
  obtain ⟨v6, w6, hrun6, hown6, hgrow6, _⟩ := run_append_own (P := Tryd.prog) (w := X) B 23 23 25 i0 _ 6 72 Tryd.underlying23 hi0 hz0 hz1 hz2 rfl (by decide) v cs.length _ h ⟨a, 0, none⟩ 1 1 c.cells.toList rfl cells (nd_one _) (by unfold maxLen; omega) (by omega) hB
  have hblk := append_block (P := Tryd.prog) (w := X) B 23 23 25 i0 _ 6 72 Tryd.underlying23 hi0 hz0 hz1 hz2 v cs.length _ h ⟨a, 0, none⟩ 1 1 c.cells.toList (by omega) rfl cells (nd_one _) (by unfold maxLen; omega) (by omega) hrun6
  rcases hown6.2 with ⟨_, hz⟩ | ⟨g2, cp, cur, rfl, h1, h2, _⟩
  · omega
  · refine ⟨g2, cp, w6, hrun6, ?_, hgrow6, ?_⟩
    · have : ndC (cs ++ [c]) = ndC cs ++ c.cells.toList := by rw [ndC_app]; simp [ndC]
      rw [this]; exact hown6
    · simp only [Value.ownBlock] at hblk
      rcases hblk with e | e
      · left; exact e.symm
      · right; injection e
theorem Rq.app {X : World} {B : Nat} {Q : Nat → Prop} {v : Value} {l : List Nd} {cs : List Nc} (h : Rq X B Q v l cs) (hB : B ≤ X.heap.size) (hQ : ∀ x, X.heap.size ≤ x → Q x) {a : Nat} {c : Nc} {n : Nd} (ha : X.heap[a]? = some (.cells c.cells 25 (0, 0))) (hn : NdAt X (fun x => Q x ∧ v.ownBlock ≠ some x) c n) (hm : l.length ≤ 200000) :
    ∃ g cp Y, (appN #[23, 23] 23 #[v, .slice (some ⟨a, 0, none⟩) 1 1]).run Tryd.prog X = .ok (.slice (some ⟨g, 0, none⟩) (l.length + 1) cp) Y ∧ Rq Y B Q (.slice (some ⟨g, 0, none⟩) (l.length + 1) cp) (l ++ [n]) (cs ++ [c]) ∧ X.grownBy Y v.ownBlock := by
  obtain ⟨g, cp, Y, hr, ho, hg, hb⟩ := own_app h.own hB ha (by rw [h.len]; exact hm)
  rw [h.len] at hr ho
  have hQg : Q g := by
    rcases hb with e | e
    · exact h.blk g e
    · rw [e]; exact hQ _ (Nat.le_refl _)
  refine ⟨g, cp, Y, hr, ⟨by simp [h.len], by rw [List.length_append]; simpa [h.len] using ho, fun q hq => ?_, fun j h1 h2 => ?_⟩, hg⟩
  · simp only [Value.ownBlock, Option.some.injEq] at hq; rw [← hq]; exact hQg
  · have kp : ∀ {c' : Nc} {n' : Nd}, NdAt X (fun x => Q x ∧ v.ownBlock ≠ some x) c' n' → NdAt Y (fun x => Q x ∧ (Value.slice (some ⟨g, 0, none⟩) (l.length + 1) cp).ownBlock ≠ some x) c' n' := fun hh => hh.keep (fun x hx hl => ⟨hx.1, by
        simp only [Value.ownBlock]
        intro e
        injection e with e
        rcases hb with e2 | e2
        · exact hx.2 (by rw [e2, e])
        · omega⟩) hg.size (fun x hx hl => hg.block x hl (fun e => hx.2 e.symm))
    by_cases hj : j < cs.length
    · rw [List.getElem_append_left hj, List.getElem_append_left (by rw [← h.len]; exact hj)]
      exact kp (h.nds j hj (by rw [← h.len]; exact hj))
    · have e1 : j = cs.length := by simp at h1; omega
      subst e1
      rw [List.getElem_append_right (Nat.le_refl _), List.getElem_append_right (by rw [h.len]; exact Nat.le_refl _)]
      simp only [Nat.sub_self, h.len]
      exact kp hn
theorem Rq.kids {X : World} {B : Nat} {Q : Nat → Prop} {a : Option Addr} {n m : Nat} {l : List Nd} {cs : List Nc} (h : Rq X B Q (.slice a n m) l cs) : KidsAt X Q a 0 l := by
  rcases h.own.2 with ⟨hv, hz⟩ | ⟨g, cap, cur, hv, _⟩
  · have : l = [] := List.eq_nil_of_length_eq_zero (by rw [← h.len]; exact hz)
    subst this; exact KidsAt.nil _ _
  · obtain ⟨rfl, rfl, rfl⟩ : a = some ⟨g, 0, none⟩ ∧ n = cs.length ∧ m = cap := by
      simp only [Value.slice.injEq] at hv; exact hv
    exact kids_of h.len h.own (h.blk g rfl) (fun j h1 h2 => (h.nds j h1 h2).keep (fun x hx _ => hx.1) (Nat.le_refl _) (fun _ _ _ => rfl))
theorem Ds.grow {w X Y : World} {b g cap i : Nat} {o e' p : Int} {L : List Tok} {e : TypeId} {k n : Nat} {v : Value} {xs : List Value} (h : Ds w X b g cap L i o e' p) (bl : b < w.heap.size) (gl : g < w.heap.size) (ho : X.ownsRow w.heap.size e k v n xs) (hg : X.grownBy Y v.ownBlock) : Ds w Y b g cap L i o e' p := by
  have far : ∀ q, q < w.heap.size → some q ≠ v.ownBlock := fun q hq e => by have := (own_lt' ho e.symm).2; omega
  exact ⟨h.rd.same (hg.block b h.rd.bl (far b bl)) (hg.block g h.rd.gl (far g gl)) hg.size, ⟨hg.os.trans h.gb.os, hg.tape.trans h.gb.tape, hg.output.trans h.gb.output, Nat.le_trans h.gb.size hg.size, fun q hq hne => (hg.block q (Nat.lt_of_lt_of_le hq h.gb.size) (far q hq)).trans (h.gb.block q hq hne)⟩⟩
theorem Ds.far {w w1 : World} {b g cap i : Nat} {o e p : Int} {L : List Tok} (h : Ds w w1 b g cap L i o e p) (hb : b < w.heap.size) (hg : g < w.heap.size) (q j : Nat) (hq : w.heap.size ≤ q) (v : Value) : Ds w (w1.setCell ⟨q, j, none⟩ v) b g cap L i o e p :=
  ⟨h.rd.same (Below.heap_setCell _ _ _ _ (by show b ≠ q; omega)) (Below.heap_setCell _ _ _ _ (by show g ≠ q; omega)) (by simp), ⟨h.gb.os, h.gb.tape, h.gb.output, by simpa using h.gb.size, fun k hk hne => (Below.heap_setCell _ _ _ _ (by show k ≠ q; omega)).trans (h.gb.block k hk hne)⟩⟩
end Go.Proofs.YtejcjhoojpoamaaDoor
