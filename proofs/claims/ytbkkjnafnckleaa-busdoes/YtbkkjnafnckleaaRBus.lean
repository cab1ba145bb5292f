/-
  How the document's bus lies in memory.
-/
import Derived.Test.YtbkkjnafnckleaaBRWrite
import Derived.Test.YtbkkjnafnckleaaMemLaw
namespace Go.Proofs.Ytbkkjnafnckleaa
open Go.ChangeShapes Go.WideShapes Go.ChangeAt Go.RowKit
attribute [local go_sem ↓] loadSec_seal storeSec_seal eqlSec_seal zeroSec
attribute [local go_sem] loadSec_run storeSec_run rowAt_at rowAt_old rowAt_drew rowAt_drewN roomSec_new roomAt_old roomAt_drew roomAt_drewN putSec_new putRow_past rowSec_put size_put putRow_drew putRow_drewN alloc_drewN setCell_drewN sec_size

set_option linter.unusedVariables false

/-- A row of words that a call itself made. -/
structure WRow (w : World) (g n : Nat) (f : Nat → Int) : Prop where
  row : ∃ cur : Array Value, w.heap[g]? = some (.cells cur 30 (0, 0)) ∧ cur.size = n ∧ ∀ i, i < n → cur[i]? = some (.int .u32 (f i))
theorem WRow.at {w : World} {g n k : Nat} {f : Nat → Int} (h : WRow w g n f) (hk : k < n) : w.cell? ⟨g, k, none⟩ = some (.int .u32 (f k)) ∧ w.frozen? ⟨g, k, none⟩ = false := by
  obtain ⟨cur, hg, hs, hc⟩ := h.row
  refine ⟨?_, by simp [World.frozen?, hg]⟩
  rw [cell_of_row w g k cur _ (0, 0) hg, hc k hk]
theorem WRow.lt {w : World} {g n : Nat} {f : Nat → Int} (h : WRow w g n f) : g < w.heap.size := by
  obtain ⟨cur, hg, _⟩ := h.row
  rcases Nat.lt_or_ge g w.heap.size with h1 | h1
  · exact h1
  · rw [Array.getElem?_eq_none h1] at hg; cases hg
theorem WRow.same {w w' : World} {g n : Nat} {f : Nat → Int} (h : WRow w g n f) (hw : w'.heap[g]? = w.heap[g]?) : WRow w' g n f := by
  obtain ⟨cur, hg, hc⟩ := h.row
  exact ⟨cur, hw.trans hg, hc⟩
theorem WRow.set {w : World} {g n k : Nat} {f : Nat → Int} (h : WRow w g n f) (hk : k < n) (v : Int) : WRow (w.setCell ⟨g, k, none⟩ (.int .u32 v)) g n (upd f k v) := by
  obtain ⟨cur, hg, hs, hc⟩ := h.row
  refine ⟨cur.setIfInBounds k (.int .u32 v), Go.Joins.block_setCell (i := k) hg _, by simpa using hs, fun i hi => ?_⟩
  by_cases e : i = k
  · subst e; rw [upd_at]; simp [hs, hk]
  · rw [upd_ne _ _ e, Array.getElem?_setIfInBounds_ne (Ne.symm e)]; exact hc i hi
theorem WRow.ext {w : World} {g n : Nat} {f h : Nat → Int} (hr : WRow w g n f) (e : ∀ i, i < n → f i = h i) : WRow w g n h := by
  obtain ⟨cur, hg, hs, hc⟩ := hr.row
  exact ⟨cur, hg, hs, fun i hi => by rw [hc i hi, e i hi]⟩
/-- The word at a place of memory. -/
def wd (M : Nat → Int) (q : Nat) : Int := M (4 * q) + M (4 * q + 1) * 256 + M (4 * q + 2) * 65536 + M (4 * q + 3) * 16777216
theorem wd_word (M : Nat → Int) (q : Nat) {a : Int} (ha : a = ((4 * q : Nat) : Int)) : wordAt M a = wd M q := by
  subst ha
  unfold wordAt
  rw [Int.toNat_natCast]
  simp only [tgv, wd, Nat.add_zero]
  omega
structure RPh where
  mb : Nat
  rd : Nat
  R : Rk
  In : ByteArray
  pa : Option Addr
  pc : Nat
def cellsR (P : RPh) (L : Lg) : Array Value := #[.slice (some ⟨P.mb, 0, none⟩) 262144 262144, .pointer (some ⟨P.rd, 0, none⟩), .string P.In, .slice P.pa L.O.length P.pc, .int .u32 L.tk, .int .u32 L.sc, .int .u32 L.ad, .int .u32 L.cm]
def RPh.all (P : RPh) (r x : Nat) : Prop := x = r ∨ x = P.mb ∨ inB P.pa x ∨ P.R.mut P.rd x
structure RTag (t : Nat → Nat) (r : Nat) (P : RPh) : Prop where
  r : t r = 0
  mb : t P.mb = 1
  pa : ∀ x, inB P.pa x → t x = 2
  R : ∀ x, P.R.mut P.rd x → t x = 3
structure RCore (w : World) (r : Nat) (P : RPh) (L : Lg) : Prop where
  mem : WRow w P.mb 262144 (wd L.M)
  byte : ∀ i, i < 1048576 → 0 ≤ L.M i ∧ L.M i ≤ 255
  dsk : RepR w P.rd P.R
  dn : P.R.n = L.n
  dm : P.R.m = L.m
  dS : ∀ i, i < L.n → lastR P.R L.m i = strF (L.S i) 1024
  dB : ∀ i, i < L.n → ByteF (L.S i)
  inp : bytesL P.In = L.I
  out : SRow w P.pa P.pc L.O
  il : L.I.length ≤ 65536
  ol : L.O.length ≤ 65536
  tk : U32 L.tk
  sc : U32 L.sc
  ad : U32 L.ad
  cm : U32 L.cm
  tag : ∃ t, RTag t r P
  lt : ∀ x, P.all r x → x < w.heap.size
structure RBus (w : World) (r : Nat) (P : RPh) (L : Lg) : Prop extends RCore w r P L where
  blk : rowAt w r = some (cellsR P L)
  room : roomAt w r 8 = true
theorem RTag.ne {t : Nat → Nat} {r : Nat} {P : RPh} (h : RTag t r P) : r ≠ P.mb ∧ ¬ inB P.pa r ∧ ¬ P.R.mut P.rd r ∧ ¬ inB P.pa P.mb ∧ ¬ P.R.mut P.rd P.mb := by
  refine ⟨fun e => ?_, fun e => ?_, fun e => ?_, fun e => ?_, fun e => ?_⟩
  · have := h.mb; rw [← e, h.r] at this; cases this
  · have := h.pa _ e; rw [h.r] at this; cases this
  · have := h.R _ e; rw [h.r] at this; cases this
  · have := h.pa _ e; rw [h.mb] at this; cases this
  · have := h.R _ e; rw [h.mb] at this; cases this
theorem RCore.keep {w w' : World} {r : Nat} {P : RPh} {L : Lg} (h : RCore w r P L) (hs : w.heap.size ≤ w'.heap.size) (hw : ∀ x, x ≠ r → P.all r x → w'.heap[x]? = w.heap[x]?) : RCore w' r P L := by
  obtain ⟨t, ht⟩ := h.tag
  have ne := ht.ne
  exact { h with
    mem := h.mem.same (hw _ (Ne.symm ne.1) (.inr (.inl rfl)))
    dsk := h.dsk.keep hs fun x hx => hw x (fun e => ne.2.2.1 (e ▸ hx)) (.inr (.inr (.inr hx)))
    out := h.out.same fun x hx => hw x (fun e => ne.2.1 (e ▸ hx)) (.inr (.inr (.inl hx)))
    lt := fun x hx => Nat.lt_of_lt_of_le (h.lt x hx) hs }
theorem RBus.keep {w w' : World} {r : Nat} {P : RPh} {L : Lg} (h : RBus w r P L) (hs : w.heap.size ≤ w'.heap.size) (hw : ∀ x, P.all r x → w'.heap[x]? = w.heap[x]?) : RBus w' r P L :=
  { h.toRCore.keep hs fun x _ hx => hw x hx with blk := (rowAt_same (hw r (.inl rfl))).trans h.blk, room := (roomAt_same (hw r (.inl rfl))).trans h.room }
theorem RCore.put {w : World} {r : Nat} {P : RPh} {L : Lg} (h : RCore w r P L) {X : Array Value} (hX : rowAt w r = some X) (hr : roomAt w r 8 = true) (j : Nat) (v : Value) (hc : X.setIfInBounds j v = cellsR P L) : RBus (w.setCell ⟨r, j, none⟩ v) r P L := by
  have hblk := hX
  have hroom := hr
  unfold roomAt at hroom
  unfold rowAt at hblk
  split at hroom
  case h_2 => cases hroom
  rename_i Y t fr hY
  rw [hY] at hblk
  have hblk : Y = X := Option.some.inj hblk
  have hfr : fr = (0, 0) := by simp at hroom; exact hroom.2
  have hsz : Y.size = 8 := by simp at hroom; exact hroom.1
  subst hblk hfr
  have b6 := Go.Joins.block_setCell (i := j) hY v
  have hk := h.keep (w' := w.setCell ⟨r, j, none⟩ v) (by simp) fun x hx _ => Below.heap_setCell _ _ _ _ hx
  exact { hk with
    blk := by unfold rowAt; rw [b6]; exact congrArg some hc
    room := by unfold roomAt; rw [b6]; simp [hsz] }
theorem RBus.below {w w' : World} {r : Nat} {P : RPh} {L : Lg} (h : RBus w r P L) (hb : Below w.heap.size w w') : RBus w' r P L := h.keep hb.size fun x hx => hb.block x (h.lt x hx)
theorem RBus.tou {w w' : World} {r : Nat} {P : RPh} {L : Lg} {M : Nat → Prop} (h : RBus w r P L) (ht : Tou M w w') (hM : ∀ x, M x → ¬ P.all r x) : RBus w' r P L := h.keep ht.size fun x hx => ht.block x (h.lt x hx) fun hm => hM x hm hx
theorem RBus.cell {w : World} {r : Nat} {P : RPh} {L : Lg} (h : RBus w r P L) (j : Nat) : w.cell? ⟨r, j, none⟩ = (cellsR P L)[j]? := rowAt_cell h.blk j
theorem RBus.free {w : World} {r : Nat} {P : RPh} {L : Lg} (h : RBus w r P L) {j : Nat} (hj : j < 8) : w.frozen? ⟨r, j, none⟩ = false := by
  have := (room_there h.room j hj).2
  simpa using this
theorem RBus.blt {w : World} {r : Nat} {P : RPh} {L : Lg} (h : RBus w r P L) : r < w.heap.size := h.lt r (.inl rfl)
structure Eight (w : World) (r : Nat) (P : RPh) (L : Lg) : Prop where
  c0 : w.cell? ⟨r, 0, none⟩ = some (.slice (some ⟨P.mb, 0, none⟩) 262144 262144)
  c1 : w.cell? ⟨r, 1, none⟩ = some (.pointer (some ⟨P.rd, 0, none⟩))
  c2 : w.cell? ⟨r, 2, none⟩ = some (.string P.In)
  c3 : w.cell? ⟨r, 3, none⟩ = some (.slice P.pa L.O.length P.pc)
  c4 : w.cell? ⟨r, 4, none⟩ = some (.int .u32 L.tk)
  c5 : w.cell? ⟨r, 5, none⟩ = some (.int .u32 L.sc)
  c6 : w.cell? ⟨r, 6, none⟩ = some (.int .u32 L.ad)
  c7 : w.cell? ⟨r, 7, none⟩ = some (.int .u32 L.cm)
theorem RBus.eight {w : World} {r : Nat} {P : RPh} {L : Lg} (h : RBus w r P L) : Eight w r P L := ⟨h.cell 0, h.cell 1, h.cell 2, h.cell 3, h.cell 4, h.cell 5, h.cell 6, h.cell 7⟩
/-- What a step leaves. -/
structure RStp (w : World) (r : Nat) (P : RPh) (w' : World) (P' : RPh) (L' : Lg) : Prop where
  bus : RBus w' r P' L'
  tou : Tou (P.all r) w w'
  new : ∀ x, P'.all r x → P.all r x ∨ w.heap.size ≤ x
theorem RStp.put {w : World} {r : Nat} {P : RPh} {L L' : Lg} (h : RBus w r P L) (k : RCore w r P L') (j : Nat) (v : Value) (hc : (cellsR P L).setIfInBounds j v = cellsR P L') : RStp w r P (w.setCell ⟨r, j, none⟩ v) P L' :=
  ⟨k.put h.blk h.room j v hc, (Tou.refl _ _).set ⟨r, j, none⟩ (.inl rfl) _, fun _ hx => .inl hx⟩
theorem RStp.mem {w w' : World} {r : Nat} {P : RPh} {L : Lg} (h : RBus w r P L) {M' : Nat → Int} (ht : Tou (fun x => x = P.mb) w w') (hr : WRow w' P.mb 262144 (wd M')) (hb : ∀ i, i < 1048576 → 0 ≤ M' i ∧ M' i ≤ 255) : RStp w r P w' P { L with M := M' } := by
  obtain ⟨t, hg⟩ := h.tag
  have ne := hg.ne
  have old : ∀ x, x ≠ P.mb → P.all r x → w'.heap[x]? = w.heap[x]? := fun x h1 h2 => ht.block x (h.lt x h2) h1
  refine ⟨{ mem := hr, byte := hb, dsk := ?_, dn := h.dn, dm := h.dm, dS := h.dS, dB := h.dB, inp := h.inp, out := ?_, il := h.il, ol := h.ol, tk := h.tk, sc := h.sc, ad := h.ad, cm := h.cm, tag := ⟨t, hg⟩, lt := fun x hx => Nat.lt_of_lt_of_le (h.lt x hx) ht.size, blk := ?_, room := ?_ }, ⟨ht.os, ht.tape, ht.output, ht.size, fun k hk hm => ht.block k hk fun e => hm (.inr (.inl e))⟩, fun _ hx => .inl hx⟩
  · exact h.dsk.keep ht.size fun x hx => old x (fun e => ne.2.2.2.2 (e ▸ hx)) (.inr (.inr (.inr hx)))
  · exact h.out.same fun x hx => old x (fun e => ne.2.2.2.1 (e ▸ hx)) (.inr (.inr (.inl hx)))
  · exact (rowAt_same (old _ ne.1 (.inl rfl))).trans h.blk
  · exact (roomAt_same (old _ ne.1 (.inl rfl))).trans h.room
theorem RStp.refl {w : World} {r : Nat} {P : RPh} {L : Lg} (h : RBus w r P L) : RStp w r P w P L := ⟨h, Tou.refl _ _, fun _ hx => .inl hx⟩
theorem RStp.trans {w w1 w2 : World} {r : Nat} {P P1 P2 : RPh} {L1 L2 : Lg} (h : RStp w r P w1 P1 L1) (k : RStp w1 r P1 w2 P2 L2) : RStp w r P w2 P2 L2 :=
  ⟨k.bus, h.tou.trans k.tou fun x hx hn => (h.new x hn).resolve_right (by omega), fun x hx => (k.new x hx).elim (fun e => h.new x e) fun e => .inr (Nat.le_trans h.tou.size e)⟩
theorem RStp.below {w w1 : World} {r : Nat} {P : RPh} {L : Lg} (h : RBus w r P L) (hb : Below w.heap.size w w1) : RStp w r P w1 P L := ⟨h.below hb, Below.tou hb _, fun _ hx => .inl hx⟩
theorem rout_end {w w1 : World} {r : Nat} {P : RPh} {L : Lg} (h : RBus w r P L) {O' : List Int} {a' : Option Addr} {c' : Nat} (ht : Tou (inB P.pa) w w1) (hS : SRow w1 a' c' O') (hl : O'.length ≤ 65536) (ha : ∀ y, inB a' y → inB P.pa y ∨ w.heap.size ≤ y) (hlt : ∀ y, inB a' y → y < w1.heap.size) : RStp w r P (w1.setCell ⟨r, 3, none⟩ (.slice a' O'.length c')) { P with pa := a', pc := c' } { L with O := O' } := by
  obtain ⟨t, hg⟩ := h.tag
  have old : ∀ y, P.all r y → t y ≠ 2 → w1.heap[y]? = w.heap[y]? := fun y hy h4 => ht.block y (h.lt y hy) fun e => h4 (hg.pa y e)
  have hal : ∀ y, RPh.all { P with pa := a', pc := c' } r y → P.all r y ∨ w.heap.size ≤ y := by
    rintro y (e | e | e | e)
    · exact .inl (.inl e)
    · exact .inl (.inr (.inl e))
    · exact (ha y e).imp (fun e => .inr (.inr (.inl e))) id
    · exact .inl (.inr (.inr (.inr e)))
  have t4 : ∀ y, t y = 0 ∨ t y = 1 ∨ t y = 3 → t y ≠ 2 := fun y => by omega
  have hb := old r (.inl rfl) (t4 _ (.inl hg.r))
  have hc : RCore w1 r { P with pa := a', pc := c' } { L with O := O' } := { h.toRCore with
    mem := h.mem.same (old _ (.inr (.inl rfl)) (t4 _ (.inr (.inl hg.mb))))
    dsk := h.dsk.keep ht.size fun x hx => old x (.inr (.inr (.inr hx))) (t4 _ (.inr (.inr (hg.R x hx))))
    out := hS
    ol := hl
    tag := ⟨fun y => if y < w.heap.size then t y else 2, {
      r := (if_pos h.blt).trans hg.r
      mb := (if_pos (h.lt _ (.inr (.inl rfl)))).trans hg.mb
      pa := fun y hy => by
        rcases ha y hy with e | e
        · exact (if_pos (h.lt y (.inr (.inr (.inl e))))).trans (hg.pa y e)
        · exact if_neg (by omega)
      R := fun y hy => (if_pos (h.lt y (.inr (.inr (.inr hy))))).trans (hg.R y hy) }⟩
    lt := fun y hy => by
      rcases hy with e | e | e | e
      · exact Nat.lt_of_lt_of_le (h.lt y (.inl e)) ht.size
      · exact Nat.lt_of_lt_of_le (h.lt y (.inr (.inl e))) ht.size
      · exact hlt y e
      · exact Nat.lt_of_lt_of_le (h.lt y (.inr (.inr (.inr e)))) ht.size }
  have hT : Tou (P.all r) w w1 := ⟨ht.os, ht.tape, ht.output, ht.size, fun k hk hm => ht.block k hk fun e => hm (.inr (.inr (.inl e)))⟩
  exact ⟨hc.put ((rowAt_same hb).trans h.blk) ((roomAt_same hb).trans h.room) 3 _ rfl, hT.set ⟨r, 3, none⟩ (.inl rfl) _, hal⟩
theorem rdisk_end {w w1 : World} {r : Nat} {P : RPh} {L : Lg} (h : RBus w r P L) {Q : Rk} {S' : Nat → Nat → Int} {m' : Nat} (hQ : RepR w1 P.rd Q) (qn : Q.n = L.n) (qm : Q.m = m') (qS : ∀ i, i < L.n → lastR Q m' i = strF (S' i) 1024) (qB : ∀ i, i < L.n → ByteF (S' i)) (ht : Tou (P.R.mut P.rd) w w1) (hx : ∀ x, Q.mut P.rd x → P.R.mut P.rd x ∨ w.heap.size ≤ x) : RStp w r P w1 { P with R := Q } { L with S := S', m := m' } := by
  obtain ⟨t, hg⟩ := h.tag
  have old : ∀ y, P.all r y → t y ≠ 3 → w1.heap[y]? = w.heap[y]? := fun y hy h4 => ht.block y (h.lt y hy) fun e => h4 (hg.R y e)
  have hal : ∀ y, RPh.all { P with R := Q } r y → P.all r y ∨ w.heap.size ≤ y := by
    rintro y (e | e | e | e)
    · exact .inl (.inl e)
    · exact .inl (.inr (.inl e))
    · exact .inl (.inr (.inr (.inl e)))
    · exact (hx y e).imp (fun e => .inr (.inr (.inr e))) id
  have t4 : ∀ y, t y = 0 ∨ t y = 1 ∨ t y = 2 → t y ≠ 3 := fun y => by omega
  have hb := old r (.inl rfl) (t4 _ (.inl hg.r))
  refine ⟨{ h.toRCore with
    mem := h.mem.same (old _ (.inr (.inl rfl)) (t4 _ (.inr (.inl hg.mb))))
    dsk := hQ
    dn := qn
    dm := qm
    dS := qS
    dB := qB
    out := h.out.same fun x hx => old x (.inr (.inr (.inl hx))) (t4 _ (.inr (.inr (hg.pa x hx))))
    tag := ⟨fun y => if y < w.heap.size then t y else 3, {
      r := (if_pos h.blt).trans hg.r
      mb := (if_pos (h.lt _ (.inr (.inl rfl)))).trans hg.mb
      pa := fun y hy => (if_pos (h.lt y (.inr (.inr (.inl hy))))).trans (hg.pa y hy)
      R := fun y hy => by
        rcases hx y hy with e | e
        · exact (if_pos (h.lt y (.inr (.inr (.inr e))))).trans (hg.R y e)
        · exact if_neg (by omega) }⟩
    lt := fun y hy => by
      rcases hy with e | e | e | e
      · exact Nat.lt_of_lt_of_le (h.lt y (.inl e)) ht.size
      · exact Nat.lt_of_lt_of_le (h.lt y (.inr (.inl e))) ht.size
      · exact Nat.lt_of_lt_of_le (h.lt y (.inr (.inr (.inl e)))) ht.size
      · exact hQ.lt y e
    blk := (rowAt_same hb).trans h.blk
    room := (roomAt_same hb).trans h.room }, ⟨ht.os, ht.tape, ht.output, ht.size, fun k hk hm => ht.block k hk fun e => hm (.inr (.inr (.inr e)))⟩, hal⟩
end Go.Proofs.Ytbkkjnafnckleaa
