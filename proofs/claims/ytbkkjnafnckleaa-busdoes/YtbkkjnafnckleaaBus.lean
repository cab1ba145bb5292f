/-
  How a bus lies in memory, and what it holds as plain data.
-/
import Derived.Test.YtbkkjnafnckleaaWords
import Derived.Laws.EntriesVeiled
import Derived.Deep.AppendSrc
import Derived.Deep.Light
namespace Go.Proofs.Ytbkkjnafnckleaa
open Go.ChangeShapes Go.WideShapes Go.ChangeAt Go.RowKit
attribute [local go_sem ↓] loadSec_seal storeSec_seal eqlSec_seal zeroSec
attribute [local go_sem] loadSec_run storeSec_run rowAt_at rowAt_old rowAt_drew rowAt_drewN roomSec_new roomAt_old roomAt_drew roomAt_drewN putSec_new putRow_past rowSec_put size_put putRow_drew putRow_drewN alloc_drewN setCell_drewN sec_size

/-- What a bus holds. -/
structure Lg where
  M : Nat → Int
  I : List Int
  O : List Int
  tk : Int
  sc : Int
  ad : Int
  cm : Int
  n : Nat
  S : Nat → Nat → Int
  m : Nat
/-- Where it lies. -/
structure Ph where
  mb : Nat
  db : Nat
  vb : Nat
  cb : Nat
  ia : Option Addr
  ic : Nat
  oa : Option Addr
  oc : Nat
  D : Dk
def cellsB (P : Ph) (L : Lg) : Array Value := #[.slice (some ⟨P.mb, 0, none⟩) 1048576 1048576, .pointer (some ⟨P.db, 0, none⟩), .slice (some ⟨P.vb, 0, none⟩) 7 7, .slice P.ia L.I.length P.ic, .slice P.oa L.O.length P.oc, .int .u32 L.tk, .int .u32 L.sc, .int .u32 L.ad, .int .u32 L.cm]
def devLoad (b cb : Nat) : Nat → Value
  | 0 => .func (.func 56) #[] #[.pointer (some ⟨cb, 0, none⟩)]
  | 1 => .func (.func 57) #[.pointer (some ⟨b, 0, none⟩)] #[]
  | 2 => .func (.func 59) #[.pointer (some ⟨b, 0, none⟩)] #[]
  | 3 => .func (.func 60) #[] #[.pointer (some ⟨cb, 0, none⟩)]
  | 4 => .func (.func 62) #[] #[.pointer (some ⟨cb, 0, none⟩)]
  | 5 => .func (.func 64) #[] #[.pointer (some ⟨cb, 0, none⟩)]
  | 6 => .func (.func 66) #[] #[.pointer (some ⟨cb, 0, none⟩)]
  | _ => .nilFunc
def devStore (b cb : Nat) : Nat → Value
  | 1 => .func (.func 58) #[.pointer (some ⟨b, 0, none⟩)] #[]
  | 3 => .func (.func 61) #[] #[.pointer (some ⟨cb, 0, none⟩)]
  | 4 => .func (.func 63) #[] #[.pointer (some ⟨cb, 0, none⟩)]
  | 5 => .func (.func 65) #[.pointer (some ⟨b, 0, none⟩)] #[]
  | _ => .nilFunc
def devs (b cb : Nat) : Array Value := #[.int .u32 4294967232, devLoad b cb 0, .nilFunc, .int .u32 4294967236, devLoad b cb 1, devStore b cb 1, .int .u32 4294967240, devLoad b cb 2, .nilFunc, .int .u32 4294967244, devLoad b cb 3, devStore b cb 3, .int .u32 4294967248, devLoad b cb 4, devStore b cb 4, .int .u32 4294967252, devLoad b cb 5, devStore b cb 5, .int .u32 4294967256, devLoad b cb 6, .nilFunc]
/-- Does an address lie in that block? -/
def inB (a : Option Addr) (x : Nat) : Prop := ∃ p, a = some p ∧ p.block = x
/-- A row of bytes behind a slice that has spare room. -/
structure SRow (w : World) (a : Option Addr) (c : Nat) (f : List Int) : Prop where
  row : (a = none ∧ f = [] ∧ c = 0) ∨ ∃ g off, ∃ cur : Array Value, a = some ⟨g, off, none⟩ ∧ w.heap[g]? = some (.cells cur 5 (0, 0)) ∧ off + c ≤ cur.size ∧ f.length ≤ c ∧ ∀ i, i < f.length → cur[off + i]? = some (.int .u8 (f.getD i 0))
  byte : ∀ x ∈ f, 0 ≤ x ∧ x ≤ 255
def Ph.all (P : Ph) (b x : Nat) : Prop := x = b ∨ x = P.mb ∨ x = P.vb ∨ x = P.cb ∨ inB P.ia x ∨ inB P.oa x ∨ P.D.mut P.db x ∨ P.D.fix x
structure Tag (t : Nat → Nat) (b : Nat) (P : Ph) : Prop where
  b : t b = 0
  mb : t P.mb = 1
  vb : t P.vb = 2
  cb : t P.cb = 3
  ia : ∀ x, inB P.ia x → t x = 4
  oa : ∀ x, inB P.oa x → t x = 5
  D : ∀ x, P.D.mut P.db x ∨ P.D.fix x → t x = 6
def U32 (x : Int) : Prop := 0 ≤ x ∧ x ≤ 4294967295
structure Core (w : World) (b : Nat) (P : Ph) (L : Lg) : Prop where
  mem : BRow w P.mb 1048576 L.M
  byte : ∀ i, i < 1048576 → 0 ≤ L.M i ∧ L.M i ≤ 255
  dsk : Rep w P.db P.D
  dn : P.D.n = L.n
  dS : P.D.S = L.S
  dm : P.D.m = L.m
  dev : rowAt w P.vb = some (devs b P.cb)
  cap : rowAt w P.cb = some #[.pointer (some ⟨b, 0, none⟩)]
  inp : SRow w P.ia P.ic L.I
  out : SRow w P.oa P.oc L.O
  il : L.I.length ≤ 65536
  ol : L.O.length ≤ 65536
  tk : U32 L.tk
  sc : U32 L.sc
  ad : U32 L.ad
  cm : U32 L.cm
  tag : ∃ t, Tag t b P
  lt : ∀ x, P.all b x → x < w.heap.size
structure Bus (w : World) (b : Nat) (P : Ph) (L : Lg) : Prop extends Core w b P L where
  blk : rowAt w b = some (cellsB P L)
  room : roomAt w b 9 = true
theorem SRow.same {w w' : World} {a : Option Addr} {c : Nat} {f : List Int} (h : SRow w a c f) (hw : ∀ x, inB a x → w'.heap[x]? = w.heap[x]?) : SRow w' a c f :=
  ⟨h.row.imp id fun ⟨g, off, cur, ha, hg, r⟩ => ⟨g, off, cur, ha, (hw g ⟨_, ha, rfl⟩).trans hg, r⟩, h.byte⟩
theorem Tag.ne {t : Nat → Nat} {b : Nat} {P : Ph} (h : Tag t b P) : b ≠ P.mb ∧ b ≠ P.vb ∧ b ≠ P.cb ∧ P.mb ≠ P.vb ∧ P.mb ≠ P.cb ∧ ¬ inB P.ia b ∧ ¬ inB P.oa b ∧ ¬ inB P.ia P.mb ∧ ¬ inB P.oa P.mb ∧ ¬ (P.D.mut P.db b ∨ P.D.fix b) ∧ ¬ (P.D.mut P.db P.mb ∨ P.D.fix P.mb) := by
  refine ⟨fun e => ?_, fun e => ?_, fun e => ?_, fun e => ?_, fun e => ?_, fun e => ?_, fun e => ?_, fun e => ?_, fun e => ?_, fun e => ?_, fun e => ?_⟩
  · have := h.mb; rw [← e, h.b] at this; cases this
  · have := h.vb; rw [← e, h.b] at this; cases this
  · have := h.cb; rw [← e, h.b] at this; cases this
  · have := h.vb; rw [← e, h.mb] at this; cases this
  · have := h.cb; rw [← e, h.mb] at this; cases this
  · have := h.ia _ e; rw [h.b] at this; cases this
  · have := h.oa _ e; rw [h.b] at this; cases this
  · have := h.ia _ e; rw [h.mb] at this; cases this
  · have := h.oa _ e; rw [h.mb] at this; cases this
  · have := h.D _ e; rw [h.b] at this; cases this
  · have := h.D _ e; rw [h.mb] at this; cases this
theorem Core.keep {w w' : World} {b : Nat} {P : Ph} {L : Lg} (h : Core w b P L) (hs : w.heap.size ≤ w'.heap.size) (hw : ∀ x, x ≠ b → P.all b x → w'.heap[x]? = w.heap[x]?) : Core w' b P L := by
  obtain ⟨t, ht⟩ := h.tag
  have ne := ht.ne
  exact {
    mem := h.mem.same (hw _ (Ne.symm ne.1) (.inr (.inl rfl)))
    byte := h.byte
    dsk := h.dsk.keep hs fun x hx => hw x (fun e => ne.2.2.2.2.2.2.2.2.2.1 (e ▸ hx)) (.inr (.inr (.inr (.inr (.inr (.inr hx))))))
    dn := h.dn
    dS := h.dS
    dm := h.dm
    dev := (rowAt_same (hw _ (Ne.symm ne.2.1) (.inr (.inr (.inl rfl))))).trans h.dev
    cap := (rowAt_same (hw _ (Ne.symm ne.2.2.1) (.inr (.inr (.inr (.inl rfl)))))).trans h.cap
    inp := h.inp.same fun x hx => hw x (fun e => ne.2.2.2.2.2.1 (e ▸ hx)) (.inr (.inr (.inr (.inr (.inl hx)))))
    out := h.out.same fun x hx => hw x (fun e => ne.2.2.2.2.2.2.1 (e ▸ hx)) (.inr (.inr (.inr (.inr (.inr (.inl hx))))))
    il := h.il
    ol := h.ol
    tk := h.tk
    sc := h.sc
    ad := h.ad
    cm := h.cm
    tag := ⟨t, ht⟩
    lt := fun x hx => Nat.lt_of_lt_of_le (h.lt x hx) hs }
theorem Bus.keep {w w' : World} {b : Nat} {P : Ph} {L : Lg} (h : Bus w b P L) (hs : w.heap.size ≤ w'.heap.size) (hw : ∀ x, P.all b x → w'.heap[x]? = w.heap[x]?) : Bus w' b P L :=
  { h.toCore.keep hs fun x _ hx => hw x hx with blk := (rowAt_same (hw b (.inl rfl))).trans h.blk, room := (roomAt_same (hw b (.inl rfl))).trans h.room }
/-- A cell of the bus itself is stored. -/
theorem Core.put {w : World} {b : Nat} {P : Ph} {L : Lg} (h : Core w b P L) {X : Array Value} (hX : rowAt w b = some X) (hr : roomAt w b 9 = true) (j : Nat) (v : Value) (hc : X.setIfInBounds j v = cellsB P L) : Bus (w.setCell ⟨b, j, none⟩ v) b P L := by
  have hblk := hX
  have hroom := hr
  unfold roomAt at hroom
  unfold rowAt at hblk
  split at hroom
  case h_2 => cases hroom
  rename_i Y t fr hY
  rw [hY] at hblk
  have hblk : Y = X := Option.some.inj hblk
  have hfr : fr = (0, 0) := by simp at hroom; exact hroom.2
  have hsz : Y.size = 9 := by simp at hroom; exact hroom.1
  subst hblk hfr
  have b6 := Go.Joins.block_setCell (i := j) hY v
  have hk := h.keep (w' := w.setCell ⟨b, j, none⟩ v) (by simp) fun x hx _ => Below.heap_setCell _ _ _ _ hx
  exact { hk with
    blk := by unfold rowAt; rw [b6]; exact congrArg some hc
    room := by unfold roomAt; rw [b6]; simp [hsz] }
theorem Bus.below {w w' : World} {b : Nat} {P : Ph} {L : Lg} (h : Bus w b P L) (hb : Below w.heap.size w w') : Bus w' b P L := h.keep hb.size fun x hx => hb.block x (h.lt x hx)
theorem Bus.tou {w w' : World} {b : Nat} {P : Ph} {L : Lg} {M : Nat → Prop} (h : Bus w b P L) (ht : Tou M w w') (hM : ∀ x, M x → ¬ P.all b x) : Bus w' b P L := h.keep ht.size fun x hx => ht.block x (h.lt x hx) fun hm => hM x hm hx
theorem Bus.cell {w : World} {b : Nat} {P : Ph} {L : Lg} (h : Bus w b P L) (j : Nat) : w.cell? ⟨b, j, none⟩ = (cellsB P L)[j]? := rowAt_cell h.blk j
theorem Bus.free {w : World} {b : Nat} {P : Ph} {L : Lg} (h : Bus w b P L) {j : Nat} (hj : j < 9) : w.frozen? ⟨b, j, none⟩ = false := by
  have := (room_there h.room j hj).2
  simpa using this
theorem Bus.blt {w : World} {b : Nat} {P : Ph} {L : Lg} (h : Bus w b P L) : b < w.heap.size := h.lt b (.inl rfl)
/-- The cells of a bus. -/
structure Nine (w : World) (b : Nat) (P : Ph) (L : Lg) : Prop where
  c0 : w.cell? ⟨b, 0, none⟩ = some (.slice (some ⟨P.mb, 0, none⟩) 1048576 1048576)
  c1 : w.cell? ⟨b, 1, none⟩ = some (.pointer (some ⟨P.db, 0, none⟩))
  c2 : w.cell? ⟨b, 2, none⟩ = some (.slice (some ⟨P.vb, 0, none⟩) 7 7)
  c3 : w.cell? ⟨b, 3, none⟩ = some (.slice P.ia L.I.length P.ic)
  c4 : w.cell? ⟨b, 4, none⟩ = some (.slice P.oa L.O.length P.oc)
  c5 : w.cell? ⟨b, 5, none⟩ = some (.int .u32 L.tk)
  c6 : w.cell? ⟨b, 6, none⟩ = some (.int .u32 L.sc)
  c7 : w.cell? ⟨b, 7, none⟩ = some (.int .u32 L.ad)
  c8 : w.cell? ⟨b, 8, none⟩ = some (.int .u32 L.cm)
theorem Bus.nine {w : World} {b : Nat} {P : Ph} {L : Lg} (h : Bus w b P L) : Nine w b P L := ⟨h.cell 0, h.cell 1, h.cell 2, h.cell 3, h.cell 4, h.cell 5, h.cell 6, h.cell 7, h.cell 8⟩
/-- What a step of a bus leaves. -/
structure Stp (w : World) (b : Nat) (P : Ph) (w' : World) (P' : Ph) (L' : Lg) : Prop where
  bus : Bus w' b P' L'
  tou : Tou (P.all b) w w'
  new : ∀ x, P'.all b x → P.all b x ∨ w.heap.size ≤ x
  db : P'.db = P.db
theorem Stp.put {w : World} {b : Nat} {P : Ph} {L L' : Lg} (h : Bus w b P L) (k : Core w b P L') (j : Nat) (v : Value) (hc : (cellsB P L).setIfInBounds j v = cellsB P L') : Stp w b P (w.setCell ⟨b, j, none⟩ v) P L' :=
  ⟨k.put h.blk h.room j v hc, (Tou.refl _ _).set ⟨b, j, none⟩ (.inl rfl) _, fun _ hx => .inl hx, rfl⟩
theorem Stp.mem {w w' : World} {b : Nat} {P : Ph} {L : Lg} (h : Bus w b P L) {M' : Nat → Int} (ht : Tou (fun x => x = P.mb) w w') (hr : BRow w' P.mb 1048576 M') (hb : ∀ i, i < 1048576 → 0 ≤ M' i ∧ M' i ≤ 255) : Stp w b P w' P { L with M := M' } := by
  obtain ⟨t, hg⟩ := h.tag
  have ne := hg.ne
  have old : ∀ x, x ≠ P.mb → P.all b x → w'.heap[x]? = w.heap[x]? := fun x h1 h2 => ht.block x (h.lt x h2) h1
  refine ⟨{ mem := hr, byte := hb, dsk := ?_, dn := h.dn, dS := h.dS, dm := h.dm, dev := ?_, cap := ?_, inp := ?_, out := ?_, il := h.il, ol := h.ol, tk := h.tk, sc := h.sc, ad := h.ad, cm := h.cm, tag := ⟨t, hg⟩, lt := fun x hx => Nat.lt_of_lt_of_le (h.lt x hx) ht.size, blk := ?_, room := ?_ }, ⟨ht.os, ht.tape, ht.output, ht.size, fun k hk hm => ht.block k hk fun e => hm (.inr (.inl e))⟩, fun _ hx => .inl hx, rfl⟩
  · exact h.dsk.keep ht.size fun x hx => old x (fun e => ne.2.2.2.2.2.2.2.2.2.2 (e ▸ hx)) (.inr (.inr (.inr (.inr (.inr (.inr hx))))))
  · exact (rowAt_same (old _ (Ne.symm ne.2.2.2.1) (.inr (.inr (.inl rfl))))).trans h.dev
  · exact (rowAt_same (old _ (Ne.symm ne.2.2.2.2.1) (.inr (.inr (.inr (.inl rfl)))))).trans h.cap
  · exact h.inp.same fun x hx => old x (fun e => ne.2.2.2.2.2.2.2.1 (e ▸ hx)) (.inr (.inr (.inr (.inr (.inl hx)))))
  · exact h.out.same fun x hx => old x (fun e => ne.2.2.2.2.2.2.2.2.1 (e ▸ hx)) (.inr (.inr (.inr (.inr (.inr (.inl hx))))))
  · exact (rowAt_same (old _ ne.1 (.inl rfl))).trans h.blk
  · exact (roomAt_same (old _ ne.1 (.inl rfl))).trans h.room
theorem Stp.refl {w : World} {b : Nat} {P : Ph} {L : Lg} (h : Bus w b P L) : Stp w b P w P L := ⟨h, Tou.refl _ _, fun _ hx => .inl hx, rfl⟩
theorem Stp.trans {w w1 w2 : World} {b : Nat} {P P1 P2 : Ph} {L1 L2 : Lg} (h : Stp w b P w1 P1 L1) (k : Stp w1 b P1 w2 P2 L2) : Stp w b P w2 P2 L2 :=
  ⟨k.bus, h.tou.trans k.tou fun x hx hn => (h.new x hn).resolve_right (by omega), fun x hx => (k.new x hx).elim (fun e => h.new x e) fun e => .inr (Nat.le_trans h.tou.size e), k.db.trans h.db⟩
theorem Stp.below {w w1 : World} {b : Nat} {P : Ph} {L : Lg} (h : Bus w b P L) (hb : Below w.heap.size w w1) : Stp w b P w1 P L := ⟨h.below hb, Below.tou hb _, fun _ hx => .inl hx, rfl⟩
end Go.Proofs.Ytbkkjnafnckleaa
