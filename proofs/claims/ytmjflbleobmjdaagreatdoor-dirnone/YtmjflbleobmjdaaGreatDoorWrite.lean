/-
  A sector is written.
-/
import Derived.Test.YtmjflbleobmjdaaGreatDoorRead
namespace Go.Proofs.YtmjflbleobmjdaaGreatDoor
open Go.ChangeShapes Go.WideShapes Go.ChangeAt Go.RowKit
attribute [local go_sem ↓] loadSec_seal storeSec_seal eqlSec_seal zeroSec
attribute [local go_sem] loadSec_run storeSec_run rowAt_at rowAt_old rowAt_drew rowAt_drewN roomSec_new roomAt_old roomAt_drew roomAt_drewN putSec_new putRow_past rowSec_put size_put putRow_drew putRow_drewN alloc_drewN setCell_drewN sec_size

set_option linter.unusedVariables false

def upd {α : Type} (f : Nat → α) (k : Nat) (v : α) : Nat → α := fun i => if i = k then v else f i
theorem upd_at {α : Type} (f : Nat → α) (k : Nat) (v : α) : upd f k v k = v := if_pos rfl
theorem upd_ne {α : Type} (f : Nat → α) {k i : Nat} (v : α) (h : i ≠ k) : upd f k v i = f i := if_neg h
def Dk.wrote (D : Dk) (n P : Nat) (f : Nat → Int) (g cap : Nat) : Dk :=
  { D with p := upd D.p n P, S := upd D.S n f, rv := .slice (some ⟨g, 0, none⟩) (D.m + 1) cap, m := D.m + 1, wn := upd D.wn D.m n, wp := upd D.wp D.m P, C := upd D.C D.m f }
theorem wcells_upd (wn wp : Nat → Nat) (k : Nat) (n P : Nat) : ∀ m, m ≤ k → wcells (upd wn k n) (upd wp k P) m = wcells wn wp m
  | 0, _ => rfl
  | m + 1, h => by rw [wcells, wcells, wcells_upd wn wp k n P m (by omega), upd_ne _ _ (by omega), upd_ne _ _ (by omega)]
theorem wcells_len (wn wp : Nat → Nat) : ∀ m, (wcells wn wp m).length = m * 2
  | 0 => rfl
  | m + 1 => by rw [wcells, List.length_append, wcells_len wn wp m]; simp; omega
theorem own_set {w : World} {e : TypeId} {g n c i : Nat} {p : Nat → Nat} (h : w.ownsRow 0 e 1 (.slice (some ⟨g, 0, none⟩) n c) n (ptrs p n)) (hi : i < n) (P : Nat) : (w.setCell ⟨g, i, none⟩ (.pointer (some ⟨P, 0, none⟩))).ownsRow 0 e 1 (.slice (some ⟨g, 0, none⟩) n c) n (ptrs (upd p i P) n) := by
  rcases h.2 with ⟨h0, _⟩ | ⟨g', cap, cur, hv, _, hg, h1, h2, hs, ht⟩
  · simp at h0
  · simp at hv
    obtain ⟨rfl, rfl⟩ := hv
    refine ⟨by simp [ptrs], .inr ⟨g, c, cur.setIfInBounds i (.pointer (some ⟨P, 0, none⟩)), rfl, Nat.zero_le _, Go.Joins.block_setCell (i := i) hg _, h1, h2, by simpa using hs, ?_⟩⟩
    apply List.ext_getElem?
    intro j
    by_cases hj : j < n
    · rw [ptrs_at _ hj, List.getElem?_take, if_pos (by omega)]
      by_cases e : j = i
      · subst e
        have hjs : j < cur.size := by omega
        rw [upd_at]; simp [hjs]
      · rw [upd_ne _ _ e]
        have := congrArg (fun l => l[j]?) ht
        simp only [List.getElem?_take, if_pos (show j < n * 1 by omega), ptrs_at p hj] at this
        simpa [Ne.symm e] using this
    · rw [List.getElem?_eq_none (by simp; omega), List.getElem?_eq_none (by simp [ptrs]; omega)]
theorem rep_write {w w5 : World} {b n P g cap : Nat} {D : Dk} {f : Nat → Int} {vs : Obj} (h : Rep w b D) (hn : n < D.n) (hm : D.m < 4096) (hP : rowAt w P = some (sec f)) (hf : ByteF f) (hPm : ¬ D.mut b P)
    (hown : w5.ownsRow 0 115 2 (.slice (some ⟨g, 0, none⟩) (D.m + 1) cap) (D.m + 1) (wcells D.wn D.wp D.m ++ [.int .i64 n, .pointer (some ⟨P, 0, none⟩)]))
    (hgrow : ((w.setCell ⟨D.nb, n, none⟩ (.pointer (some ⟨P, 0, none⟩))).alloc vs).grownBy w5 D.rv.ownBlock) (hat : D.rv.ownBlock = some g ∨ g = w.heap.size + 1) :
    Rep (w5.setCell ⟨b, 2, none⟩ (.slice (some ⟨g, 0, none⟩) (D.m + 1) cap)) b (D.wrote n P f g cap) ∧ Tou (D.mut b) w (w5.setCell ⟨b, 2, none⟩ (.slice (some ⟨g, 0, none⟩) (D.m + 1) cap)) ∧
      (∀ x, (D.wrote n P f g cap).mut b x → D.mut b x ∨ w.heap.size ≤ x) ∧ (∀ x, (D.wrote n P f g cap).fix x → D.fix x ∨ x = P) := by
  have hb0 : b < w.heap.size := h.lt b (.inl (.inl rfl))
  have hnb0 : D.nb < w.heap.size := h.lt _ (.inl (.inr (.inl rfl)))
  have s0 : ((w.setCell ⟨D.nb, n, none⟩ (.pointer (some ⟨P, 0, none⟩))).alloc vs).heap.size = w.heap.size + 1 := by simp
  have s5 : w.heap.size + 1 ≤ w5.heap.size := by rw [← s0]; exact hgrow.size
  have s6 : (w5.setCell ⟨b, 2, none⟩ (.slice (some ⟨g, 0, none⟩) (D.m + 1) cap)).heap.size = w5.heap.size := by simp
  have same5 : ∀ x, x < w.heap.size → x ≠ D.nb → D.rv.ownBlock ≠ some x → w5.heap[x]? = w.heap[x]? := fun x hx h1 h2 => by
    rw [hgrow.block x (by omega) (fun e => h2 e.symm), Below.heap_alloc _ _ _ (by simpa using hx), Below.heap_setCell _ _ _ _ h1]
  have same : ∀ x, x < w.heap.size → ¬ D.mut b x → (w5.setCell ⟨b, 2, none⟩ (.slice (some ⟨g, 0, none⟩) (D.m + 1) cap)).heap[x]? = w.heap[x]? := fun x hx hm => by
    rw [Below.heap_setCell _ _ _ _ (fun e => hm (.inl e)), same5 x hx (fun e => hm (.inr (.inl e))) (fun e => hm (.inr (.inr e)))]
  have rb : D.rv.ownBlock ≠ some b := fun e => (h.d2 b e).1 rfl
  have rn : D.rv.ownBlock ≠ some D.nb := fun e => (h.d2 _ e).2 rfl
  have gb : g ≠ b := by
    rcases hat with e | e
    · exact fun e2 => rb (e2 ▸ e)
    · omega
  have gn : g ≠ D.nb := by
    rcases hat with e | e
    · exact fun e2 => rn (e2 ▸ e)
    · omega
  have bw5 : w5.heap[b]? = w.heap[b]? := same5 b hb0 h.d1 rb
  have hfix : ∀ x, D.fix x → x < w.heap.size ∧ ¬ D.mut b x := fun x hx => ⟨h.lt x (.inr hx), fun hm => h.apart x hm hx⟩
  have Plt := rowAt_lt hP
  have mutx : ∀ x, (D.wrote n P f g cap).mut b x → D.mut b x ∨ (x = g ∧ w.heap.size ≤ x) := fun x hx => by
    rcases hx with e | e | e
    · exact .inl (.inl e)
    · exact .inl (.inr (.inl e))
    · have e : g = x := Option.some.inj (show some g = some x from e)
      rcases hat with e2 | e2
      · exact .inl (.inr (.inr (e ▸ e2)))
      · exact .inr ⟨e.symm, by omega⟩
  have fixx : ∀ x, (D.wrote n P f g cap).fix x → D.fix x ∨ x = P := fun x hx => by
    rcases hx with e | ⟨i, hi, e⟩ | ⟨i, hi, e⟩ | ⟨k, hk, e⟩
    · exact .inl (.inl e)
    · exact .inl (.inr (.inl ⟨i, hi, e⟩))
    · have e : x = upd D.p n P i := e
      by_cases hin : i = n
      · right; rw [e, hin, upd_at]
      · left; rw [upd_ne _ _ hin] at e; exact .inr (.inr (.inl ⟨i, hi, e⟩))
    · have e : x = upd D.wp D.m P k := e
      have hk : k < D.m + 1 := hk
      by_cases hin : k = D.m
      · right; rw [e, hin, upd_at]
      · left; rw [upd_ne _ _ hin] at e; exact .inr (.inr (.inr ⟨k, by omega, e⟩))
  have PR : rowAt (w5.setCell ⟨b, 2, none⟩ (.slice (some ⟨g, 0, none⟩) (D.m + 1) cap)) P = some (sec f) := (rowAt_same (same P Plt hPm)).trans hP
  have old : ∀ x X, D.fix x → rowAt w x = some X → rowAt (w5.setCell ⟨b, 2, none⟩ (.slice (some ⟨g, 0, none⟩) (D.m + 1) cap)) x = some X := fun x X hx hr => (rowAt_same (same x (hfix x hx).1 (hfix x hx).2)).trans hr
  refine ⟨?_, ⟨hgrow.os, hgrow.tape, hgrow.output, by omega, same⟩, fun x hx => (mutx x hx).imp id (·.2), fixx⟩
  have hblk := h.blk
  have hroom := h.room
  unfold roomAt at hroom
  unfold rowAt at hblk
  split at hroom
  case h_2 => cases hroom
  rename_i Y t fr hY
  rw [hY] at hblk
  have hblk : Y = D.cells := Option.some.inj hblk
  have hfr : fr = (0, 0) := by simp at hroom; exact hroom.2
  subst hblk hfr
  have b6 := Go.Joins.block_setCell (i := 2) (bw5.trans hY) (.slice (some ⟨g, 0, none⟩) (D.m + 1) cap)
  exact {
    n0 := h.n0
    n1 := h.n1
    m1 := hm
    blk := by
      unfold rowAt; rw [b6]; rfl
    room := by
      unfold roomAt; rw [b6]; rfl
    first := own_same h.first fun x hx => by
      have e := Option.some.inj (show some D.fb = some x from hx)
      subst e
      exact same _ (hfix _ (.inl rfl)).1 (hfix _ (.inl rfl)).2
    now := by
      refine own_same (own_set h.now hn P) fun x hx => ?_
      have e := Option.some.inj (show some D.nb = some x from hx)
      subst e
      rw [Below.heap_setCell _ _ _ _ (fun e => h.d1 e.symm), hgrow.block _ (by omega) (fun e => rn e.symm), Below.heap_alloc _ _ _ (by simpa using hnb0)]
    row := by
      have e : wcells (upd D.wn D.m n) (upd D.wp D.m P) (D.m + 1) = wcells D.wn D.wp D.m ++ [.int .i64 n, .pointer (some ⟨P, 0, none⟩)] := by
        rw [wcells, wcells_upd _ _ _ _ _ _ (Nat.le_refl _), upd_at, upd_at]
      show World.ownsRow _ 0 _ 2 _ (D.m + 1) (wcells (upd D.wn D.m n) (upd D.wp D.m P) (D.m + 1))
      rw [e]
      refine own_same hown fun x hx => ?_
      have e := Option.some.inj (show some g = some x from hx)
      subst e
      exact Below.heap_setCell _ _ _ _ gb
    secF := fun i hi => ⟨old _ _ (.inr (.inl ⟨i, hi, rfl⟩)) (h.secF i hi).1, (h.secF i hi).2⟩
    secS := fun i hi => by
      show rowAt _ (upd D.p n P i) = some (sec (upd D.S n f i)) ∧ ByteF (upd D.S n f i)
      by_cases e : i = n
      · subst e; rw [upd_at, upd_at]; exact ⟨PR, hf⟩
      · rw [upd_ne _ _ e, upd_ne _ _ e]; exact ⟨old _ _ (.inr (.inr (.inl ⟨i, hi, rfl⟩))) (h.secS i hi).1, (h.secS i hi).2⟩
    secC := fun k hk => by
      show rowAt _ (upd D.wp D.m P k) = some (sec (upd D.C D.m f k)) ∧ ByteF (upd D.C D.m f k)
      have hk : k < D.m + 1 := hk
      by_cases e : k = D.m
      · subst e; rw [upd_at, upd_at]; exact ⟨PR, hf⟩
      · have hk' : k < D.m := by omega
        rw [upd_ne _ _ e, upd_ne _ _ e]; exact ⟨old _ _ (.inr (.inr (.inr ⟨k, hk', rfl⟩))) (h.secC k hk').1, (h.secC k hk').2⟩
    wlt := fun k hk => by
      show upd D.wn D.m n k < D.n
      have hk : k < D.m + 1 := hk
      by_cases e : k = D.m
      · rw [e, upd_at]; exact hn
      · rw [upd_ne _ _ e]; exact h.wlt k (by omega)
    d1 := h.d1
    d2 := fun x hx => by
      have e := Option.some.inj (show some g = some x from hx)
      subst e; exact ⟨gb, gn⟩
    apart := fun x hx hfx => by
      rcases mutx x hx with h1 | ⟨_, h1⟩
      · rcases fixx x hfx with h2 | h2
        · exact h.apart x h1 h2
        · exact hPm (h2 ▸ h1)
      · rcases fixx x hfx with h2 | h2
        · have := h.lt x (.inr h2); omega
        · omega
    lt := fun x hx => by
      rw [s6]
      rcases hx with hx | hx
      · rcases mutx x hx with h1 | ⟨h1, _⟩
        · have := h.lt x (.inl h1); omega
        · have := World.ownsRow.lt hown g rfl; omega
      · rcases fixx x hx with h1 | h1
        · have := h.lt x (.inr h1); omega
        · omega }
end Go.Proofs.YtmjflbleobmjdaaGreatDoor
