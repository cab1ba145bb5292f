/-
  A sector is written.
  The walk of a write.
  Rows of bytes that a call itself made; rows of bytes as strings.
-/
import Derived.Test.YteegkhnikcioiaaGreatDoorMRead
import Derived.Laws.BytesArg
namespace Go.Proofs.YteegkhnikcioiaaGreatDoor
open Go.ChangeShapes Go.WideShapes Go.ChangeAt Go.RowKit
attribute [local go_sem ↓] loadSec_seal storeSec_seal eqlSec_seal zeroSec
attribute [local go_sem] loadSec_run storeSec_run rowAt_at rowAt_old rowAt_drew rowAt_drewN roomSec_new roomAt_old roomAt_drew roomAt_drewN putSec_new putRow_past rowSec_put size_put putRow_drew putRow_drewN alloc_drewN setCell_drewN sec_size

set_option linter.unusedVariables false

def upd {α : Type} (f : Nat → α) (k : Nat) (v : α) : Nat → α := fun i => if i = k then v else f i
theorem upd_at {α : Type} (f : Nat → α) (k : Nat) (v : α) : upd f k v k = v := if_pos rfl
theorem upd_ne {α : Type} (f : Nat → α) {k i : Nat} (v : α) (h : i ≠ k) : upd f k v i = f i := if_neg h
def Dk.wrote (D : Dk) (n P : Nat) (f : Nat → Int) (g cap : Nat) : Dk :=
  { D with p := upd D.p n P, S := upd D.S n f, rv := .slice (some ⟨g, 0, none⟩) (D.m + 1) cap, m := D.m + 1, wn := upd D.wn D.m n, wp := upd D.wp D.m P, C := upd D.C D.m f }
theorem wcells_upd (wn wp : Nat → Nat) (k : Nat) (n P : Nat) : ∀ m, m ≤ k → wcells (upd wn k n) (upd wp k P) m = wcells wn wp m
  | 0, _ => rfl
  | m + 1, h => by rw [wcells, wcells, wcells_upd wn wp k n P m (by omega), upd_ne _ _ (by omega), upd_ne _ _ (by omega)]
theorem wcells_len (wn wp : Nat → Nat) : ∀ m, (wcells wn wp m).length = m * 2
  | 0 => rfl
  | m + 1 => by rw [wcells, List.length_append, wcells_len wn wp m]; simp; omega
theorem own_set {w : World} {e : TypeId} {g n c i : Nat} {p : Nat → Nat} (h : w.ownsRow 0 e 1 (.slice (some ⟨g, 0, none⟩) n c) n (ptrs p n)) (hi : i < n) (P : Nat) : (w.setCell ⟨g, i, none⟩ (.pointer (some ⟨P, 0, none⟩))).ownsRow 0 e 1 (.slice (some ⟨g, 0, none⟩) n c) n (ptrs (upd p i P) n) := by
  rcases h.2 with ⟨h0, _⟩ | ⟨g', cap, cur, hv, _, hg, h1, h2, hs, ht⟩
  · simp at h0
  · simp at hv
    obtain ⟨rfl, rfl⟩ := hv
    refine ⟨by simp [ptrs], .inr ⟨g, c, cur.setIfInBounds i (.pointer (some ⟨P, 0, none⟩)), rfl, Nat.zero_le _, Go.Joins.block_setCell (i := i) hg _, h1, h2, by simpa using hs, ?_⟩⟩
    apply List.ext_getElem?
    intro j
    by_cases hj : j < n
    · rw [ptrs_at _ hj, List.getElem?_take, if_pos (by omega)]
      by_cases e : j = i
      · subst e
        have hjs : j < cur.size := by omega
        rw [upd_at]; simp [hjs]
      · rw [upd_ne _ _ e]
        have := congrArg (fun l => l[j]?) ht
        simp only [List.getElem?_take, if_pos (show j < n * 1 by omega), ptrs_at p hj] at this
        simpa [Ne.symm e] using this
    · rw [List.getElem?_eq_none (by simp; omega), List.getElem?_eq_none (by simp [ptrs]; omega)]
theorem rep_write {w w5 : World} {b n P g cap : Nat} {D : Dk} {f : Nat → Int} {vs : Obj} (h : Rep w b D) (hn : n < D.n) (hm : D.m < 4096) (hP : rowAt w P = some (sec f)) (hf : ByteF f) (hPm : ¬ D.mut b P)
    (hown : w5.ownsRow 0 104 2 (.slice (some ⟨g, 0, none⟩) (D.m + 1) cap) (D.m + 1) (wcells D.wn D.wp D.m ++ [.int .i64 n, .pointer (some ⟨P, 0, none⟩)]))
    (hgrow : ((w.setCell ⟨D.nb, n, none⟩ (.pointer (some ⟨P, 0, none⟩))).alloc vs).grownBy w5 D.rv.ownBlock) (hat : D.rv.ownBlock = some g ∨ g = w.heap.size + 1) :
    Rep (w5.setCell ⟨b, 2, none⟩ (.slice (some ⟨g, 0, none⟩) (D.m + 1) cap)) b (D.wrote n P f g cap) ∧ Tou (D.mut b) w (w5.setCell ⟨b, 2, none⟩ (.slice (some ⟨g, 0, none⟩) (D.m + 1) cap)) ∧
      (∀ x, (D.wrote n P f g cap).mut b x → D.mut b x ∨ w.heap.size ≤ x) ∧ (∀ x, (D.wrote n P f g cap).fix x → D.fix x ∨ x = P) := by
  have hb0 : b < w.heap.size := h.lt b (.inl (.inl rfl))
  have hnb0 : D.nb < w.heap.size := h.lt _ (.inl (.inr (.inl rfl)))
  have s0 : ((w.setCell ⟨D.nb, n, none⟩ (.pointer (some ⟨P, 0, none⟩))).alloc vs).heap.size = w.heap.size + 1 := by simp
  have s5 : w.heap.size + 1 ≤ w5.heap.size := by rw [← s0]; exact hgrow.size
  have s6 : (w5.setCell ⟨b, 2, none⟩ (.slice (some ⟨g, 0, none⟩) (D.m + 1) cap)).heap.size = w5.heap.size := by simp
  have same5 : ∀ x, x < w.heap.size → x ≠ D.nb → D.rv.ownBlock ≠ some x → w5.heap[x]? = w.heap[x]? := fun x hx h1 h2 => by
    rw [hgrow.block x (by omega) (fun e => h2 e.symm), Below.heap_alloc _ _ _ (by simpa using hx), Below.heap_setCell _ _ _ _ h1]
  have same : ∀ x, x < w.heap.size → ¬ D.mut b x → (w5.setCell ⟨b, 2, none⟩ (.slice (some ⟨g, 0, none⟩) (D.m + 1) cap)).heap[x]? = w.heap[x]? := fun x hx hm => by
    rw [Below.heap_setCell _ _ _ _ (fun e => hm (.inl e)), same5 x hx (fun e => hm (.inr (.inl e))) (fun e => hm (.inr (.inr e)))]
  have rb : D.rv.ownBlock ≠ some b := fun e => (h.d2 b e).1 rfl
  have rn : D.rv.ownBlock ≠ some D.nb := fun e => (h.d2 _ e).2 rfl
  have gb : g ≠ b := by
    rcases hat with e | e
    · exact fun e2 => rb (e2 ▸ e)
    · omega
  have gn : g ≠ D.nb := by
    rcases hat with e | e
    · exact fun e2 => rn (e2 ▸ e)
    · omega
  have bw5 : w5.heap[b]? = w.heap[b]? := same5 b hb0 h.d1 rb
  have hfix : ∀ x, D.fix x → x < w.heap.size ∧ ¬ D.mut b x := fun x hx => ⟨h.lt x (.inr hx), fun hm => h.apart x hm hx⟩
  have Plt := rowAt_lt hP
  have mutx : ∀ x, (D.wrote n P f g cap).mut b x → D.mut b x ∨ (x = g ∧ w.heap.size ≤ x) := fun x hx => by
    rcases hx with e | e | e
    · exact .inl (.inl e)
    · exact .inl (.inr (.inl e))
    · have e : g = x := Option.some.inj (show some g = some x from e)
      rcases hat with e2 | e2
      · exact .inl (.inr (.inr (e ▸ e2)))
      · exact .inr ⟨e.symm, by omega⟩
  have fixx : ∀ x, (D.wrote n P f g cap).fix x → D.fix x ∨ x = P := fun x hx => by
    rcases hx with e | ⟨i, hi, e⟩ | ⟨i, hi, e⟩ | ⟨k, hk, e⟩
    · exact .inl (.inl e)
    · exact .inl (.inr (.inl ⟨i, hi, e⟩))
    · have e : x = upd D.p n P i := e
      by_cases hin : i = n
      · right; rw [e, hin, upd_at]
      · left; rw [upd_ne _ _ hin] at e; exact .inr (.inr (.inl ⟨i, hi, e⟩))
    · have e : x = upd D.wp D.m P k := e
      have hk : k < D.m + 1 := hk
      by_cases hin : k = D.m
      · right; rw [e, hin, upd_at]
      · left; rw [upd_ne _ _ hin] at e; exact .inr (.inr (.inr ⟨k, by omega, e⟩))
  have PR : rowAt (w5.setCell ⟨b, 2, none⟩ (.slice (some ⟨g, 0, none⟩) (D.m + 1) cap)) P = some (sec f) := (rowAt_same (same P Plt hPm)).trans hP
  have old : ∀ x X, D.fix x → rowAt w x = some X → rowAt (w5.setCell ⟨b, 2, none⟩ (.slice (some ⟨g, 0, none⟩) (D.m + 1) cap)) x = some X := fun x X hx hr => (rowAt_same (same x (hfix x hx).1 (hfix x hx).2)).trans hr
  refine ⟨?_, ⟨hgrow.os, hgrow.tape, hgrow.output, by omega, same⟩, fun x hx => (mutx x hx).imp id (·.2), fixx⟩
  have hblk := h.blk
  have hroom := h.room
  unfold roomAt at hroom
  unfold rowAt at hblk
  split at hroom
  case h_2 => cases hroom
  rename_i Y t fr hY
  rw [hY] at hblk
  have hblk : Y = D.cells := Option.some.inj hblk
  have hfr : fr = (0, 0) := by simp at hroom; exact hroom.2
  subst hblk hfr
  have b6 := Go.Joins.block_setCell (i := 2) (bw5.trans hY) (.slice (some ⟨g, 0, none⟩) (D.m + 1) cap)
  exact {
    n0 := h.n0
    n1 := h.n1
    m1 := hm
    blk := by
      unfold rowAt; rw [b6]; rfl
    room := by
      unfold roomAt; rw [b6]; rfl
    first := own_same h.first fun x hx => by
      have e := Option.some.inj (show some D.fb = some x from hx)
      subst e
      exact same _ (hfix _ (.inl rfl)).1 (hfix _ (.inl rfl)).2
    now := by
      refine own_same (own_set h.now hn P) fun x hx => ?_
      have e := Option.some.inj (show some D.nb = some x from hx)
      subst e
      rw [Below.heap_setCell _ _ _ _ (fun e => h.d1 e.symm), hgrow.block _ (by omega) (fun e => rn e.symm), Below.heap_alloc _ _ _ (by simpa using hnb0)]
    row := by
      have e : wcells (upd D.wn D.m n) (upd D.wp D.m P) (D.m + 1) = wcells D.wn D.wp D.m ++ [.int .i64 n, .pointer (some ⟨P, 0, none⟩)] := by
        rw [wcells, wcells_upd _ _ _ _ _ _ (Nat.le_refl _), upd_at, upd_at]
      show World.ownsRow _ 0 _ 2 _ (D.m + 1) (wcells (upd D.wn D.m n) (upd D.wp D.m P) (D.m + 1))
      rw [e]
      refine own_same hown fun x hx => ?_
      have e := Option.some.inj (show some g = some x from hx)
      subst e
      exact Below.heap_setCell _ _ _ _ gb
    secF := fun i hi => ⟨old _ _ (.inr (.inl ⟨i, hi, rfl⟩)) (h.secF i hi).1, (h.secF i hi).2⟩
    secS := fun i hi => by
      show rowAt _ (upd D.p n P i) = some (sec (upd D.S n f i)) ∧ ByteF (upd D.S n f i)
      by_cases e : i = n
      · subst e; rw [upd_at, upd_at]; exact ⟨PR, hf⟩
      · rw [upd_ne _ _ e, upd_ne _ _ e]; exact ⟨old _ _ (.inr (.inr (.inl ⟨i, hi, rfl⟩))) (h.secS i hi).1, (h.secS i hi).2⟩
    secC := fun k hk => by
      show rowAt _ (upd D.wp D.m P k) = some (sec (upd D.C D.m f k)) ∧ ByteF (upd D.C D.m f k)
      have hk : k < D.m + 1 := hk
      by_cases e : k = D.m
      · subst e; rw [upd_at, upd_at]; exact ⟨PR, hf⟩
      · have hk' : k < D.m := by omega
        rw [upd_ne _ _ e, upd_ne _ _ e]; exact ⟨old _ _ (.inr (.inr (.inr ⟨k, hk', rfl⟩))) (h.secC k hk').1, (h.secC k hk').2⟩
    wlt := fun k hk => by
      show upd D.wn D.m n k < D.n
      have hk : k < D.m + 1 := hk
      by_cases e : k = D.m
      · rw [e, upd_at]; exact hn
      · rw [upd_ne _ _ e]; exact h.wlt k (by omega)
    d1 := h.d1
    d2 := fun x hx => by
      have e := Option.some.inj (show some g = some x from hx)
      subst e; exact ⟨gb, gn⟩
    apart := fun x hx hfx => by
      rcases mutx x hx with h1 | ⟨_, h1⟩
      · rcases fixx x hfx with h2 | h2
        · exact h.apart x h1 h2
        · exact hPm (h2 ▸ h1)
      · rcases fixx x hfx with h2 | h2
        · have := h.lt x (.inr h2); omega
        · omega
    lt := fun x hx => by
      rw [s6]
      rcases hx with hx | hx
      · rcases mutx x hx with h1 | ⟨h1, _⟩
        · have := h.lt x (.inl h1); omega
        · have := World.ownsRow.lt hown g rfl; omega
      · rcases fixx x hx with h1 | h1
        · have := h.lt x (.inr h1); omega
        · omega }
end Go.Proofs.YteegkhnikcioiaaGreatDoor

namespace Go.Proofs.YteegkhnikcioiaaGreatDoor
open Go.ChangeShapes Go.WideShapes Go.ChangeAt Go.RowKit
attribute [local go_sem ↓] loadSec_seal storeSec_seal eqlSec_seal zeroSec
attribute [local go_sem] loadSec_run storeSec_run rowAt_at rowAt_old rowAt_drew rowAt_drewN roomSec_new roomAt_old roomAt_drew roomAt_drewN putSec_new putRow_past rowSec_put size_put putRow_drew putRow_drewN alloc_drewN setCell_drewN sec_size

set_option linter.unusedVariables false

theorem write_nil (n : Int) (v : Value) (w : World) : Calls Tryz.prog 155 #[.pointer none, .int .i64 n, v] w fun e w' => e = .returned (.int .i64 1) ∧ Below w.heap.size w w' := by
  go_enter Tryz.func155, Tryz.ntmps155
  go_wp2
  go_ret
  exact ⟨rfl, by go_grown⟩
theorem Rep.rowV {w : World} {b : Nat} {D : Dk} (h : Rep w b D) : ∃ ra rcap, D.rv = .slice ra D.m rcap := by
  rcases h.row.2 with ⟨e, e0⟩ | ⟨g, cap, _, e, _⟩
  · exact ⟨none, 0, by rw [e, e0]⟩
  · exact ⟨_, _, e⟩
theorem Rep.parts {w : World} {b : Nat} {D : Dk} (h : Rep w b D) {ra : Option Addr} {rcap : Nat} (hv : D.rv = .slice ra D.m rcap) {X : World} (hX : Below w.heap.size w X) : X.cell? ⟨b, 1, none⟩ = some (.slice (some ⟨D.nb, 0, none⟩) D.n D.nc) ∧ X.cell? ⟨b, 2, none⟩ = some (.slice ra D.m rcap) :=
  ⟨((h.below hX).cell 1).trans D.at1, by rw [← hv]; exact ((h.below hX).cell 2).trans D.at2⟩
theorem write_bad (b : Nat) (D : Dk) (n : Int) (a : Option Addr) (len cap : Nat) (w : World) (h : Rep w b D) (hE : ¬ firstE n D.n len D.m = 0) : Calls Tryz.prog 155 #[.pointer (some ⟨b, 0, none⟩), .int .i64 n, .slice a len cap] w fun e w' => e = .returned (.int .i64 (firstE n D.n len D.m)) ∧ Below w.heap.size w w' := by
  obtain ⟨ra, rcap, hv⟩ := h.rowV
  have HC : Hid (∀ X, Below w.heap.size w X → _ ∧ _) := fun X hX => h.parts hv hX
  have hmf : ∀ (fn : Fn) (first cap : Array Value) (w : World), (Instr.makeFunc fn first cap).run Tryz.prog w = .ok (.func fn first cap) w := fun _ _ _ _ => rfl
  clear h hv
  go_enter Tryz.func155, Tryz.ntmps155
  go_wp2_with (go_at_call 159; refine (first_any _ b n a len cap _ _ _ _ _ _ _ (by simp [askV]) (by simp [askV]) (by simp [askV]) (HC.out _ (by go_grown)).1 (HC.out _ (by go_grown)).2).mono ?_; rintro e w1 ⟨rfl, hb⟩)
  go_ret
  exact ⟨rfl, Below.trans (by go_grown) (hb.mono (by simp; omega))⟩
theorem info67 : (Tryz.prog.info? 104).map (fun i => (i.zero, i.size, i.bytes)) = some (some (.agg #[.int .i64 0, .pointer none]), 2, 16) := by kernel_rfl
theorem pair_src (w : World) (x y : Value) (t : TypeId) (k : Nat) (hk : k = w.heap.size) : ∀ j u, [x, y][j]? = some u → (w.alloc (.cells #[x, y] t)).cell? ((⟨k, 0, none⟩ : Addr).add j) = some u := by
  intro j u hj
  subst hk
  rw [add_lit0]
  have hl := (List.getElem?_eq_some_iff.1 hj).1
  simp at hl
  have : j = 0 ∨ j = 1 := by omega
  rcases this with rfl | rfl <;> (simp at hj; subst hj; simp)
theorem RdB.below {w w' : World} {a : Option Addr} {len : Nat} {f : Nat → Int} (h : RdB w a len f) (hb : Below w.heap.size w w') : RdB w' a len f := by
  refine ⟨h.1, h.2.imp id fun ⟨b, off, ha, hc⟩ => ⟨b, off, ha, fun i hi => ⟨?_, (hc i hi).2⟩⟩⟩
  have := World.block_lt_of_cell? _ _ (hc i hi).1
  exact (hb.cell (p := ⟨b, off + i, none⟩) this).trans (hc i hi).1
theorem RdB.bytes {w : World} {a : Option Addr} {f : Nat → Int} (h : RdB w a 1024 f) : ByteF f := by
  rcases h.2 with h | ⟨b, off, _, hc⟩
  · omega
  · exact fun i hi => (hc i hi).2
/-- What the walk reads behind the sector's store. -/
theorem mid_cells {w : World} {b : Nat} {D : Dk} (h : Rep w b D) (n : Nat) (v : Value) {ra : Option Addr} {rcap : Nat} (hv : D.rv = .slice ra D.m rcap) : (w.setCell ⟨D.nb, n, none⟩ v).cell? ⟨b, 2, none⟩ = some (.slice ra D.m rcap) := by
  rw [World.cell?_of_block (w := w) (Below.heap_setCell _ _ _ _ h.d1), ← hv]
  exact (h.cell 2).trans D.at2
theorem mid_own {w : World} {b : Nat} {D : Dk} (h : Rep w b D) (n : Nat) (v : Value) {ra : Option Addr} {rcap : Nat} (hv : D.rv = .slice ra D.m rcap) (o : Obj) : ((w.setCell ⟨D.nb, n, none⟩ v).alloc o).ownsRow 0 104 2 (.slice ra D.m rcap) D.m (wcells D.wn D.wp D.m) := by
  rw [← hv]
  refine own_same h.row fun x hx => ?_
  rw [Below.heap_alloc _ _ _ (by simpa using h.lt x (.inl (.inr (.inr hx)))), Below.heap_setCell _ _ _ _ (h.d2 x hx).2]
theorem last_cells {w w5 : World} {b : Nat} {D : Dk} {vs : Obj} (h : Rep w b D) (n : Nat) (v : Value) {ra : Option Addr} {rcap : Nat} (hv : D.rv = .slice ra D.m rcap) (hg : ((w.setCell ⟨D.nb, n, none⟩ v).alloc vs).grownBy w5 (Value.slice ra D.m rcap).ownBlock) :
    (∃ u, w5.cell? ⟨b, 2, none⟩ = some u) ∧ w5.frozen? ⟨b, 2, none⟩ = false := by
  have hb0 : b < w.heap.size := h.lt b (.inl (.inl rfl))
  have e : w5.heap[b]? = w.heap[b]? := by
    rw [hg.block b (by simp; omega) (fun e => (h.d2 b (by rw [hv]; exact e.symm)).1 rfl), Below.heap_alloc _ _ _ (by simpa using hb0), Below.heap_setCell _ _ _ _ h.d1]
  refine ⟨⟨D.rv, ?_⟩, ?_⟩
  · rw [World.cell?_of_block (w := w) e]; exact (h.cell 2).trans D.at2
  · rw [World.frozen?_of_block (w := w) e]
    have := (room_there h.room 2 (by omega)).2
    simpa using this
set_option maxHeartbeats 2000000 in
theorem write_good (b : Nat) (D : Dk) (n : Nat) (a : Option Addr) (cap : Nat) (f : Nat → Int) (w : World) (h : Rep w b D) (hn : n < D.n) (hm : D.m < 4096) (hf : RdB w a 1024 f) : Calls Tryz.prog 155 #[.pointer (some ⟨b, 0, none⟩), .int .i64 n, .slice a 1024 cap] w fun e w' => ∃ P g c, e = .returned (.int .i64 0) ∧ Rep w' b (D.wrote n P f g c) ∧ Tou (D.mut b) w w' ∧ (∀ x, (D.wrote n P f g c).mut b x → D.mut b x ∨ w.heap.size ≤ x) ∧ (∀ x, (D.wrote n P f g c).fix x → D.fix x ∨ w.heap.size ≤ x) := by
  obtain ⟨ra, rcap, hv⟩ := h.rowV
  obtain ⟨i0, hi, hz0, hz1, hz2⟩ := info_parts info67
  have HC : Hid (∀ X, Below w.heap.size w X → _ ∧ _) := fun X hX => h.parts hv hX
  have HR : Hid (Rep w b D) := h
  have HV : Hid (D.rv = .slice ra D.m rcap) := hv
  have HF : Hid (RdB w a 1024 f) := hf
  have hE : firstE n D.n 1024 D.m = 0 := by
    have e1 : placeE n D.n = 0 := by simp [placeE]; omega
    have e2 : wearE D.m = 0 := by simp [wearE]; omega
    simp [firstE, e1, e2, dataE]
  have j0 : (0 : Int) ≤ (n : Int) := by omega
  have j1 : (n : Int) < (D.n : Int) := by omega
  have hmf : ∀ (fn : Fn) (first cap : Array Value) (w : World), (Instr.makeFunc fn first cap).run Tryz.prog w = .ok (.func fn first cap) w := fun _ _ _ _ => rfl
  clear h hv hf
  go_enter Tryz.func155, Tryz.ntmps155
  go_wp2_with (first
    | (go_at_call 159; refine (first_any _ b n a 1024 cap _ _ _ _ _ _ _ (by simp [askV]) (by simp [askV]) (by simp [askV]) (HC.out _ (by go_grown)).1 (HC.out _ (by go_grown)).2).mono ?_; rintro e w1 ⟨rfl, hb⟩; have hb1 : Below w.heap.size w w1 := Below.trans (by go_grown) (hb.mono (by simp; omega)); have R1 := HR.out.below hb1; have c1 := (HC.out _ hb1).1; have c2 := (R1.nowAt hn).1; have HB1 : Hid _ := hb1; have HR1 : Hid _ := R1; clear hb hb1 R1)
    | (go_at_call 162; refine (holding_any a cap f (D.S n) (D.p n) _ (HF.out.below HB1.out) (HR1.out.secS n hn).1 (HR1.out.secS n hn).2).mono ?_; rintro e w2 ⟨P, rfl, hP1, hP2, hP3, hb2⟩; have HB2 : Hid (Below w.heap.size w w2) := HB1.out.trans (hb2.mono HB1.out.size); have R2 := HR1.out.below hb2; have d1 := (R2.cell 1).trans D.at1; have d2 := R2.nowAt hn; obtain ⟨d2, d3⟩ := d2; have d4 : ∀ v, (w2.setCell ⟨D.nb, n, none⟩ v).cell? ⟨b, 2, none⟩ = some (.slice ra D.m rcap) := fun v => mid_cells R2 n v HV.out; have HR2 : Hid _ := R2; have HP : Hid (rowAt w2 P = some (sec f) ∧ (P = D.p n ∨ P = w1.heap.size) ∧ P < w2.heap.size) := ⟨hP1, hP2, hP3⟩; clear R2 hP1 hP2 hP3 hb2 c1 c2)
    | (at_builtin; refine wpList_append_lies _ rfl _ _ 92 rfl 0 104 i0 (.agg #[.int .i64 0, .pointer none]) 2 16 Tryz.underlying92 hi hz0 hz1 hz2 rfl (by decide) _ D.m (wcells D.wn D.wp D.m) rfl (mid_own HR2.out n _ HV.out _) ⟨w2.heap.size, 0, none⟩ 1 1 [.int .i64 n, .pointer (some ⟨P, 0, none⟩)] rfl rfl (pair_src _ _ _ _ _ (by simp)) (by simp [Value.oneCell']) (by omega) (by unfold maxLen; omega) (by omega) (Nat.zero_le _) _ rfl ?_; intro g c w5 hown hgrow hat hlt; obtain ⟨⟨u5, hc5⟩, hf5⟩ := last_cells HR2.out n _ HV.out hgrow; have HA : Hid _ := And.intro hown (And.intro hgrow hat); clear hown hgrow hat d1 d2 d3 d4))
  go_ret
  obtain ⟨hown, hgrow, hat⟩ := HA.out
  have R2 := HR2.out
  have sz := HB2.out.size
  have sz1 := HB1.out.size
  have hPm : ¬ D.mut b P := by
    rcases HP.out.2.1 with e | e
    · rw [e]; exact fun hm => HR.out.apart _ hm (.inr (.inr (.inl ⟨n, hn, rfl⟩)))
    · intro hm
      have := HR.out.lt P (.inl hm)
      omega
  have key := rep_write R2 hn hm HP.out.1 HF.out.bytes hPm hown (by rw [HV.out]; exact hgrow) (by
    rw [HV.out]
    rcases hat with e | e
    · exact .inl e
    · right; simpa using e)
  refine ⟨P, g, c, rfl, key.1, (Below.tou HB2.out _).trans key.2.1 (fun x _ hx => hx), fun x hx => (key.2.2.1 x hx).imp id (fun h => by omega), fun x hx => ?_⟩
  rcases key.2.2.2 x hx with h1 | rfl
  · exact .inl h1
  · rcases HP.out.2.1 with e | e
    · exact .inl (.inr (.inr (.inl ⟨n, hn, e⟩)))
    · right; omega
end Go.Proofs.YteegkhnikcioiaaGreatDoor

namespace Go.Proofs.YteegkhnikcioiaaGreatDoor
open Go.ChangeShapes Go.WideShapes Go.ChangeAt Go.RowKit
attribute [local go_sem ↓] loadSec_seal storeSec_seal eqlSec_seal zeroSec
attribute [local go_sem] loadSec_run storeSec_run rowAt_at rowAt_old rowAt_drew rowAt_drewN roomSec_new roomAt_old roomAt_drew roomAt_drewN putSec_new putRow_past rowSec_put size_put putRow_drew putRow_drewN alloc_drewN setCell_drewN sec_size

set_option linter.unusedVariables false

structure BRow (w : World) (g n : Nat) (f : Nat → Int) : Prop where
  row : ∃ cur : Array Value, w.heap[g]? = some (.cells cur 5 (0, 0)) ∧ cur.size = n ∧ ∀ i, i < n → cur[i]? = some (.int .u8 (f i))
theorem BRow.at {w : World} {g n k : Nat} {f : Nat → Int} (h : BRow w g n f) (hk : k < n) : w.cell? ⟨g, k, none⟩ = some (.int .u8 (f k)) ∧ w.frozen? ⟨g, k, none⟩ = false := by
  obtain ⟨cur, hg, hs, hc⟩ := h.row
  refine ⟨?_, by simp [World.frozen?, hg]⟩
  rw [cell_of_row w g k cur _ (0, 0) hg, hc k hk]
theorem BRow.lt {w : World} {g n : Nat} {f : Nat → Int} (h : BRow w g n f) : g < w.heap.size := by
  obtain ⟨cur, hg, _⟩ := h.row
  rcases Nat.lt_or_ge g w.heap.size with h1 | h1
  · exact h1
  · rw [Array.getElem?_eq_none h1] at hg; cases hg
theorem BRow.same {w w' : World} {g n : Nat} {f : Nat → Int} (h : BRow w g n f) (hw : w'.heap[g]? = w.heap[g]?) : BRow w' g n f := by
  obtain ⟨cur, hg, hc⟩ := h.row
  exact ⟨cur, hw.trans hg, hc⟩
theorem BRow.set {w : World} {g n k : Nat} {f : Nat → Int} (h : BRow w g n f) (hk : k < n) (v : Int) : BRow (w.setCell ⟨g, k, none⟩ (.int .u8 v)) g n (upd f k v) := by
  obtain ⟨cur, hg, hs, hc⟩ := h.row
  refine ⟨cur.setIfInBounds k (.int .u8 v), Go.Joins.block_setCell (i := k) hg _, by simpa using hs, fun i hi => ?_⟩
  by_cases e : i = k
  · subst e; rw [upd_at]; simp [hs, hk]
  · rw [upd_ne _ _ e, Array.getElem?_setIfInBounds_ne (Ne.symm e)]; exact hc i hi
theorem BRow.ext {w : World} {g n : Nat} {f h : Nat → Int} (hr : BRow w g n f) (e : ∀ i, i < n → f i = h i) : BRow w g n h := by
  obtain ⟨cur, hg, hs, hc⟩ := hr.row
  exact ⟨cur, hg, hs, fun i hi => by rw [hc i hi, e i hi]⟩
theorem BRow.rd {w : World} {g n : Nat} {f : Nat → Int} (h : BRow w g n f) (hn : n ≤ maxLen) (hf : ∀ i, i < n → 0 ≤ f i ∧ f i ≤ 255) : RdB w (some ⟨g, 0, none⟩) n f :=
  ⟨hn, .inr ⟨g, 0, rfl, fun i hi => ⟨by rw [Nat.zero_add]; exact (h.at hi).1, hf i hi⟩⟩⟩
theorem BRow.made {w : World} {base g n : Nat} (h : w.ownsRow base 5 1 (.slice (some ⟨g, 0, none⟩) n n) n (madeCells (Value.int .u8 0).cells (n * 1)).toList) : BRow w g n (fun _ => 0) := by
  rcases h.2 with ⟨h0, _⟩ | ⟨g', cap, cur, hv, _, hg, _, _, hs, ht⟩
  · simp at h0
  · simp at hv
    obtain ⟨rfl, rfl⟩ := hv
    have e : cur = (List.replicate n (.int .u8 0)).toArray := by
      rw [List.take_of_length_le (by simp; omega)] at ht
      apply Array.ext'
      rw [ht, Nat.mul_one]
      simpa [Value.cells] using toList_madeCells_one (.int .u8 0) n
    exact ⟨cur, hg, by omega, fun i hi => by rw [e]; simp [hi]⟩
theorem sec_rd {w : World} {g : Nat} {f : Nat → Int} (h : rowAt w g = some (sec f)) (hf : ByteF f) : RdB w (some ⟨g, 0, none⟩) 1024 f :=
  ⟨by decide, .inr ⟨g, 0, rfl, fun i hi => ⟨by rw [Nat.zero_add, rowAt_cell h, sec_at f hi], hf i hi⟩⟩⟩
/-- So many bytes as a string. -/
def strF (f : Nat → Int) (n : Nat) : ByteArray := strOfNums ((List.range n).map f)
theorem strF_ext {f g : Nat → Int} {n : Nat} (h : ∀ i, i < n → f i = g i) : strF f n = strF g n := by
  unfold strF; congr 1
  exact List.map_congr_left fun i hi => h i (List.mem_range.1 hi)
theorem conv_str {w : World} {a : Option Addr} {len : Nat} {f : Nat → Int} (cap : Nat) (h : RdB w a len f) : (convert 49 9 (.slice a len cap)).run Tryz.prog w = .ok (.string (strF f len)) w := by
  rcases h.2 with rfl | ⟨b, off, rfl, hc⟩
  · rw [run_convert_bytes_string w _ 9 5 a 0 cap Tryz.underlying49 Tryz.underlying5 Tryz.underlying9]
    cases a <;> simp [Conv.bytesToString, loadCells]
    all_goals rfl
  · exact run_convert_bytes_arg (P := Tryz.prog) w 49 5 Tryz.underlying49 Tryz.underlying5 b off len cap ((List.range len).map f) (by simp) (fun i hi => by rw [(hc i hi).1]; simp [List.getD, hi]) 9 Tryz.underlying9
end Go.Proofs.YteegkhnikcioiaaGreatDoor
