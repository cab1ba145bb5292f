/-
  How a bus lies in memory, and what it holds as plain data.
  The short calls of a bus.
  Memory's bytes and words, loaded and stored.
-/
import Derived.Test.YteegkhnikcioiaaGreatDoorMWords
import Derived.Laws.EntriesVeiled
import Derived.Deep.AppendSrc
import Derived.Deep.Light
namespace Go.Proofs.YteegkhnikcioiaaGreatDoor
open Go.ChangeShapes Go.WideShapes Go.ChangeAt Go.RowKit
attribute [local go_sem ↓] loadSec_seal storeSec_seal eqlSec_seal zeroSec
attribute [local go_sem] loadSec_run storeSec_run rowAt_at rowAt_old rowAt_drew rowAt_drewN roomSec_new roomAt_old roomAt_drew roomAt_drewN putSec_new putRow_past rowSec_put size_put putRow_drew putRow_drewN alloc_drewN setCell_drewN sec_size

set_option linter.unusedVariables false

/-- What a bus holds. -/
structure Lg where
  M : Nat → Int
  I : List Int
  O : List Int
  tk : Int
  sc : Int
  ad : Int
  cm : Int
  n : Nat
  S : Nat → Nat → Int
  m : Nat
/-- Where it lies. -/
structure Ph where
  mb : Nat
  db : Nat
  vb : Nat
  cb : Nat
  ia : Option Addr
  ic : Nat
  oa : Option Addr
  oc : Nat
  D : Dk
def cellsB (P : Ph) (L : Lg) : Array Value := #[.slice (some ⟨P.mb, 0, none⟩) 1048576 1048576, .pointer (some ⟨P.db, 0, none⟩), .slice (some ⟨P.vb, 0, none⟩) 7 7, .slice P.ia L.I.length P.ic, .slice P.oa L.O.length P.oc, .int .u32 L.tk, .int .u32 L.sc, .int .u32 L.ad, .int .u32 L.cm]
def devLoad (b cb : Nat) : Nat → Value
  | 0 => .func (.func 71) #[] #[.pointer (some ⟨cb, 0, none⟩)]
  | 1 => .func (.func 72) #[.pointer (some ⟨b, 0, none⟩)] #[]
  | 2 => .func (.func 74) #[.pointer (some ⟨b, 0, none⟩)] #[]
  | 3 => .func (.func 75) #[] #[.pointer (some ⟨cb, 0, none⟩)]
  | 4 => .func (.func 77) #[] #[.pointer (some ⟨cb, 0, none⟩)]
  | 5 => .func (.func 79) #[] #[.pointer (some ⟨cb, 0, none⟩)]
  | 6 => .func (.func 81) #[] #[.pointer (some ⟨cb, 0, none⟩)]
  | _ => .nilFunc
def devStore (b cb : Nat) : Nat → Value
  | 1 => .func (.func 73) #[.pointer (some ⟨b, 0, none⟩)] #[]
  | 3 => .func (.func 76) #[] #[.pointer (some ⟨cb, 0, none⟩)]
  | 4 => .func (.func 78) #[] #[.pointer (some ⟨cb, 0, none⟩)]
  | 5 => .func (.func 80) #[.pointer (some ⟨b, 0, none⟩)] #[]
  | _ => .nilFunc
def devs (b cb : Nat) : Array Value := #[.int .u32 4294967232, devLoad b cb 0, .nilFunc, .int .u32 4294967236, devLoad b cb 1, devStore b cb 1, .int .u32 4294967240, devLoad b cb 2, .nilFunc, .int .u32 4294967244, devLoad b cb 3, devStore b cb 3, .int .u32 4294967248, devLoad b cb 4, devStore b cb 4, .int .u32 4294967252, devLoad b cb 5, devStore b cb 5, .int .u32 4294967256, devLoad b cb 6, .nilFunc]
/-- Does an address lie in that block? -/
def inB (a : Option Addr) (x : Nat) : Prop := ∃ p, a = some p ∧ p.block = x
/-- A row of bytes behind a slice that has spare room. -/
structure SRow (w : World) (a : Option Addr) (c : Nat) (f : List Int) : Prop where
  row : (a = none ∧ f = [] ∧ c = 0) ∨ ∃ g off, ∃ cur : Array Value, a = some ⟨g, off, none⟩ ∧ w.heap[g]? = some (.cells cur 5 (0, 0)) ∧ off + c ≤ cur.size ∧ f.length ≤ c ∧ ∀ i, i < f.length → cur[off + i]? = some (.int .u8 (f.getD i 0))
  byte : ∀ x ∈ f, 0 ≤ x ∧ x ≤ 255
def Ph.all (P : Ph) (b x : Nat) : Prop := x = b ∨ x = P.mb ∨ x = P.vb ∨ x = P.cb ∨ inB P.ia x ∨ inB P.oa x ∨ P.D.mut P.db x ∨ P.D.fix x
structure Tag (t : Nat → Nat) (b : Nat) (P : Ph) : Prop where
  b : t b = 0
  mb : t P.mb = 1
  vb : t P.vb = 2
  cb : t P.cb = 3
  ia : ∀ x, inB P.ia x → t x = 4
  oa : ∀ x, inB P.oa x → t x = 5
  D : ∀ x, P.D.mut P.db x ∨ P.D.fix x → t x = 6
def U32 (x : Int) : Prop := 0 ≤ x ∧ x ≤ 4294967295
structure Core (w : World) (b : Nat) (P : Ph) (L : Lg) : Prop where
  mem : BRow w P.mb 1048576 L.M
  byte : ∀ i, i < 1048576 → 0 ≤ L.M i ∧ L.M i ≤ 255
  dsk : Rep w P.db P.D
  dn : P.D.n = L.n
  dS : P.D.S = L.S
  dm : P.D.m = L.m
  dev : rowAt w P.vb = some (devs b P.cb)
  cap : rowAt w P.cb = some #[.pointer (some ⟨b, 0, none⟩)]
  inp : SRow w P.ia P.ic L.I
  out : SRow w P.oa P.oc L.O
  il : L.I.length ≤ 65536
  ol : L.O.length ≤ 65536
  tk : U32 L.tk
  sc : U32 L.sc
  ad : U32 L.ad
  cm : U32 L.cm
  tag : ∃ t, Tag t b P
  lt : ∀ x, P.all b x → x < w.heap.size
structure Bus (w : World) (b : Nat) (P : Ph) (L : Lg) : Prop extends Core w b P L where
  blk : rowAt w b = some (cellsB P L)
  room : roomAt w b 9 = true
theorem SRow.same {w w' : World} {a : Option Addr} {c : Nat} {f : List Int} (h : SRow w a c f) (hw : ∀ x, inB a x → w'.heap[x]? = w.heap[x]?) : SRow w' a c f :=
  ⟨h.row.imp id fun ⟨g, off, cur, ha, hg, r⟩ => ⟨g, off, cur, ha, (hw g ⟨_, ha, rfl⟩).trans hg, r⟩, h.byte⟩
theorem Tag.ne {t : Nat → Nat} {b : Nat} {P : Ph} (h : Tag t b P) : b ≠ P.mb ∧ b ≠ P.vb ∧ b ≠ P.cb ∧ P.mb ≠ P.vb ∧ P.mb ≠ P.cb ∧ ¬ inB P.ia b ∧ ¬ inB P.oa b ∧ ¬ inB P.ia P.mb ∧ ¬ inB P.oa P.mb ∧ ¬ (P.D.mut P.db b ∨ P.D.fix b) ∧ ¬ (P.D.mut P.db P.mb ∨ P.D.fix P.mb) := by
  refine ⟨fun e => ?_, fun e => ?_, fun e => ?_, fun e => ?_, fun e => ?_, fun e => ?_, fun e => ?_, fun e => ?_, fun e => ?_, fun e => ?_, fun e => ?_⟩
  · have := h.mb; rw [← e, h.b] at this; cases this
  · have := h.vb; rw [← e, h.b] at this; cases this
  · have := h.cb; rw [← e, h.b] at this; cases this
  · have := h.vb; rw [← e, h.mb] at this; cases this
  · have := h.cb; rw [← e, h.mb] at this; cases this
  · have := h.ia _ e; rw [h.b] at this; cases this
  · have := h.oa _ e; rw [h.b] at this; cases this
  · have := h.ia _ e; rw [h.mb] at this; cases this
  · have := h.oa _ e; rw [h.mb] at this; cases this
  · have := h.D _ e; rw [h.b] at this; cases this
  · have := h.D _ e; rw [h.mb] at this; cases this
theorem Core.keep {w w' : World} {b : Nat} {P : Ph} {L : Lg} (h : Core w b P L) (hs : w.heap.size ≤ w'.heap.size) (hw : ∀ x, x ≠ b → P.all b x → w'.heap[x]? = w.heap[x]?) : Core w' b P L := by
  obtain ⟨t, ht⟩ := h.tag
  have ne := ht.ne
  exact {
    mem := h.mem.same (hw _ (Ne.symm ne.1) (.inr (.inl rfl)))
    byte := h.byte
    dsk := h.dsk.keep hs fun x hx => hw x (fun e => ne.2.2.2.2.2.2.2.2.2.1 (e ▸ hx)) (.inr (.inr (.inr (.inr (.inr (.inr hx))))))
    dn := h.dn
    dS := h.dS
    dm := h.dm
    dev := (rowAt_same (hw _ (Ne.symm ne.2.1) (.inr (.inr (.inl rfl))))).trans h.dev
    cap := (rowAt_same (hw _ (Ne.symm ne.2.2.1) (.inr (.inr (.inr (.inl rfl)))))).trans h.cap
    inp := h.inp.same fun x hx => hw x (fun e => ne.2.2.2.2.2.1 (e ▸ hx)) (.inr (.inr (.inr (.inr (.inl hx)))))
    out := h.out.same fun x hx => hw x (fun e => ne.2.2.2.2.2.2.1 (e ▸ hx)) (.inr (.inr (.inr (.inr (.inr (.inl hx))))))
    il := h.il
    ol := h.ol
    tk := h.tk
    sc := h.sc
    ad := h.ad
    cm := h.cm
    tag := ⟨t, ht⟩
    lt := fun x hx => Nat.lt_of_lt_of_le (h.lt x hx) hs }
theorem Bus.keep {w w' : World} {b : Nat} {P : Ph} {L : Lg} (h : Bus w b P L) (hs : w.heap.size ≤ w'.heap.size) (hw : ∀ x, P.all b x → w'.heap[x]? = w.heap[x]?) : Bus w' b P L :=
  { h.toCore.keep hs fun x _ hx => hw x hx with blk := (rowAt_same (hw b (.inl rfl))).trans h.blk, room := (roomAt_same (hw b (.inl rfl))).trans h.room }
/-- A cell of the bus itself is stored. -/
theorem Core.put {w : World} {b : Nat} {P : Ph} {L : Lg} (h : Core w b P L) {X : Array Value} (hX : rowAt w b = some X) (hr : roomAt w b 9 = true) (j : Nat) (v : Value) (hc : X.setIfInBounds j v = cellsB P L) : Bus (w.setCell ⟨b, j, none⟩ v) b P L := by
  have hblk := hX
  have hroom := hr
  unfold roomAt at hroom
  unfold rowAt at hblk
  split at hroom
  case h_2 => cases hroom
  rename_i Y t fr hY
  rw [hY] at hblk
  have hblk : Y = X := Option.some.inj hblk
  have hfr : fr = (0, 0) := by simp at hroom; exact hroom.2
  have hsz : Y.size = 9 := by simp at hroom; exact hroom.1
  subst hblk hfr
  have b6 := Go.Joins.block_setCell (i := j) hY v
  have hk := h.keep (w' := w.setCell ⟨b, j, none⟩ v) (by simp) fun x hx _ => Below.heap_setCell _ _ _ _ hx
  exact { hk with
    blk := by unfold rowAt; rw [b6]; exact congrArg some hc
    room := by unfold roomAt; rw [b6]; simp [hsz] }
theorem Bus.below {w w' : World} {b : Nat} {P : Ph} {L : Lg} (h : Bus w b P L) (hb : Below w.heap.size w w') : Bus w' b P L := h.keep hb.size fun x hx => hb.block x (h.lt x hx)
theorem Bus.tou {w w' : World} {b : Nat} {P : Ph} {L : Lg} {M : Nat → Prop} (h : Bus w b P L) (ht : Tou M w w') (hM : ∀ x, M x → ¬ P.all b x) : Bus w' b P L := h.keep ht.size fun x hx => ht.block x (h.lt x hx) fun hm => hM x hm hx
theorem Bus.cell {w : World} {b : Nat} {P : Ph} {L : Lg} (h : Bus w b P L) (j : Nat) : w.cell? ⟨b, j, none⟩ = (cellsB P L)[j]? := rowAt_cell h.blk j
theorem Bus.free {w : World} {b : Nat} {P : Ph} {L : Lg} (h : Bus w b P L) {j : Nat} (hj : j < 9) : w.frozen? ⟨b, j, none⟩ = false := by
  have := (room_there h.room j hj).2
  simpa using this
theorem Bus.blt {w : World} {b : Nat} {P : Ph} {L : Lg} (h : Bus w b P L) : b < w.heap.size := h.lt b (.inl rfl)
/-- The cells of a bus. -/
structure Nine (w : World) (b : Nat) (P : Ph) (L : Lg) : Prop where
  c0 : w.cell? ⟨b, 0, none⟩ = some (.slice (some ⟨P.mb, 0, none⟩) 1048576 1048576)
  c1 : w.cell? ⟨b, 1, none⟩ = some (.pointer (some ⟨P.db, 0, none⟩))
  c2 : w.cell? ⟨b, 2, none⟩ = some (.slice (some ⟨P.vb, 0, none⟩) 7 7)
  c3 : w.cell? ⟨b, 3, none⟩ = some (.slice P.ia L.I.length P.ic)
  c4 : w.cell? ⟨b, 4, none⟩ = some (.slice P.oa L.O.length P.oc)
  c5 : w.cell? ⟨b, 5, none⟩ = some (.int .u32 L.tk)
  c6 : w.cell? ⟨b, 6, none⟩ = some (.int .u32 L.sc)
  c7 : w.cell? ⟨b, 7, none⟩ = some (.int .u32 L.ad)
  c8 : w.cell? ⟨b, 8, none⟩ = some (.int .u32 L.cm)
theorem Bus.nine {w : World} {b : Nat} {P : Ph} {L : Lg} (h : Bus w b P L) : Nine w b P L := ⟨h.cell 0, h.cell 1, h.cell 2, h.cell 3, h.cell 4, h.cell 5, h.cell 6, h.cell 7, h.cell 8⟩
/-- What a step of a bus leaves. -/
structure Stp (w : World) (b : Nat) (P : Ph) (w' : World) (P' : Ph) (L' : Lg) : Prop where
  bus : Bus w' b P' L'
  tou : Tou (P.all b) w w'
  new : ∀ x, P'.all b x → P.all b x ∨ w.heap.size ≤ x
  db : P'.db = P.db
theorem Stp.put {w : World} {b : Nat} {P : Ph} {L L' : Lg} (h : Bus w b P L) (k : Core w b P L') (j : Nat) (v : Value) (hc : (cellsB P L).setIfInBounds j v = cellsB P L') : Stp w b P (w.setCell ⟨b, j, none⟩ v) P L' :=
  ⟨k.put h.blk h.room j v hc, (Tou.refl _ _).set ⟨b, j, none⟩ (.inl rfl) _, fun _ hx => .inl hx, rfl⟩
theorem Stp.mem {w w' : World} {b : Nat} {P : Ph} {L : Lg} (h : Bus w b P L) {M' : Nat → Int} (ht : Tou (fun x => x = P.mb) w w') (hr : BRow w' P.mb 1048576 M') (hb : ∀ i, i < 1048576 → 0 ≤ M' i ∧ M' i ≤ 255) : Stp w b P w' P { L with M := M' } := by
  obtain ⟨t, hg⟩ := h.tag
  have ne := hg.ne
  have old : ∀ x, x ≠ P.mb → P.all b x → w'.heap[x]? = w.heap[x]? := fun x h1 h2 => ht.block x (h.lt x h2) h1
  refine ⟨{ mem := hr, byte := hb, dsk := ?_, dn := h.dn, dS := h.dS, dm := h.dm, dev := ?_, cap := ?_, inp := ?_, out := ?_, il := h.il, ol := h.ol, tk := h.tk, sc := h.sc, ad := h.ad, cm := h.cm, tag := ⟨t, hg⟩, lt := fun x hx => Nat.lt_of_lt_of_le (h.lt x hx) ht.size, blk := ?_, room := ?_ }, ⟨ht.os, ht.tape, ht.output, ht.size, fun k hk hm => ht.block k hk fun e => hm (.inr (.inl e))⟩, fun _ hx => .inl hx, rfl⟩
  · exact h.dsk.keep ht.size fun x hx => old x (fun e => ne.2.2.2.2.2.2.2.2.2.2 (e ▸ hx)) (.inr (.inr (.inr (.inr (.inr (.inr hx))))))
  · exact (rowAt_same (old _ (Ne.symm ne.2.2.2.1) (.inr (.inr (.inl rfl))))).trans h.dev
  · exact (rowAt_same (old _ (Ne.symm ne.2.2.2.2.1) (.inr (.inr (.inr (.inl rfl)))))).trans h.cap
  · exact h.inp.same fun x hx => old x (fun e => ne.2.2.2.2.2.2.2.1 (e ▸ hx)) (.inr (.inr (.inr (.inr (.inl hx)))))
  · exact h.out.same fun x hx => old x (fun e => ne.2.2.2.2.2.2.2.2.1 (e ▸ hx)) (.inr (.inr (.inr (.inr (.inr (.inl hx))))))
  · exact (rowAt_same (old _ ne.1 (.inl rfl))).trans h.blk
  · exact (roomAt_same (old _ ne.1 (.inl rfl))).trans h.room
theorem Stp.refl {w : World} {b : Nat} {P : Ph} {L : Lg} (h : Bus w b P L) : Stp w b P w P L := ⟨h, Tou.refl _ _, fun _ hx => .inl hx, rfl⟩
theorem Stp.trans {w w1 w2 : World} {b : Nat} {P P1 P2 : Ph} {L1 L2 : Lg} (h : Stp w b P w1 P1 L1) (k : Stp w1 b P1 w2 P2 L2) : Stp w b P w2 P2 L2 :=
  ⟨k.bus, h.tou.trans k.tou fun x hx hn => (h.new x hn).resolve_right (by omega), fun x hx => (k.new x hx).elim (fun e => h.new x e) fun e => .inr (Nat.le_trans h.tou.size e), k.db.trans h.db⟩
theorem Stp.below {w w1 : World} {b : Nat} {P : Ph} {L : Lg} (h : Bus w b P L) (hb : Below w.heap.size w w1) : Stp w b P w1 P L := ⟨h.below hb, Below.tou hb _, fun _ hx => .inl hx, rfl⟩
end Go.Proofs.YteegkhnikcioiaaGreatDoor

namespace Go.Proofs.YteegkhnikcioiaaGreatDoor
open Go.ChangeShapes Go.WideShapes Go.ChangeAt Go.RowKit
attribute [local go_sem ↓] loadSec_seal storeSec_seal eqlSec_seal zeroSec
attribute [local go_sem] loadSec_run storeSec_run rowAt_at rowAt_old rowAt_drew rowAt_drewN roomSec_new roomAt_old roomAt_drew roomAt_drewN putSec_new putRow_past rowSec_put size_put putRow_drew putRow_drewN alloc_drewN setCell_drewN sec_size

set_option linter.unusedVariables false

theorem isMemory_any (b : Nat) (P : Ph) (L : Lg) (a : Int) (w : World) (h : Bus w b P L) (a0 : 0 ≤ a) (a1 : a ≤ 4294967295) : Calls Tryz.prog 130 #[.pointer (some ⟨b, 0, none⟩), .int .u32 a] w fun e w' => e = .returned (.bool (decide (a < 1048576))) ∧ w' = w := by
  have c0 := h.nine.c0
  clear h
  go_enter Tryz.func130, Tryz.ntmps130
  go_wp2
  go_ret
  exact ⟨rfl, rfl⟩
theorem status_any (b : Nat) (P : Ph) (L : Lg) (w : World) (h : Bus w b P L) : Calls Tryz.prog 74 #[.pointer (some ⟨b, 0, none⟩)] w fun e w' => e = .returned (.tuple #[.int .u32 (if L.I = [] then 2 else 3), .int .i64 0]) ∧ w' = w := by
  have c0 := h.nine.c3
  clear h
  rcases hL : L.I with _ | ⟨x, r⟩
  · rw [hL] at c0
    go_enter Tryz.func74, Tryz.ntmps74
    go_wp2
    go_ret2
    exact ⟨rfl, rfl⟩
  · rw [hL] at c0
    have h0 : (0 : Int) < ((x :: r).length : Int) := by simp
    go_enter Tryz.func74, Tryz.ntmps74
    go_wp2
    go_ret2
    exact ⟨rfl, rfl⟩
theorem disk_any (b : Nat) (P : Ph) (L : Lg) (w : World) (h : Bus w b P L) : Calls Tryz.prog 41 #[.pointer (some ⟨b, 0, none⟩)] w fun e w' => e = .returned (.pointer (some ⟨P.db, 0, none⟩)) ∧ w' = w := by
  have c0 := h.nine.c1
  clear h
  go_enter Tryz.func41, Tryz.ntmps41
  go_wp2
  go_ret
  exact ⟨rfl, rfl⟩
theorem wrapU (x : Int) : IntKind.u32.wrap x = x % 4294967296 := wrap_u32 x
theorem tick_any (b : Nat) (P : Ph) (L : Lg) (v : Int) (w : World) (h : Bus w b P L) (v0 : 0 ≤ v) (v1 : v ≤ 4294967295) : Calls Tryz.prog 47 #[.pointer (some ⟨b, 0, none⟩), .int .u32 v] w fun e w' => e = .returned (.tuple #[]) ∧ Stp w b P w' P { L with tk := (L.tk + v) % 4294967296 } := by
  have c0 := h.nine.c5
  have f0 := h.free (j := 5) (by omega)
  have H : Hid _ := h
  have t0 := h.tk.1
  have t1 := h.tk.2
  clear h
  go_enter Tryz.func47, Tryz.ntmps47
  go_wp2
  go_end0
  exact ⟨rfl, Stp.put H.out (show Core w b P { L with tk := (L.tk + v) % 4294967296 } from { H.out.toCore with tk := by unfold U32; simp only []; omega }) 5 _ rfl⟩
theorem cap_cell {w : World} {b : Nat} {P : Ph} {L : Lg} (h : Bus w b P L) : w.cell? ⟨P.cb, 0, none⟩ = some (.pointer (some ⟨b, 0, none⟩)) := rowAt_cell h.cap 0
theorem timer_any (b : Nat) (P : Ph) (L : Lg) (w : World) (h : Bus w b P L) : Calls Tryz.prog 71 #[.pointer (some ⟨P.cb, 0, none⟩)] w fun e w' => e = .returned (.tuple #[.int .u32 L.tk, .int .i64 0]) ∧ w' = w := by
  have c0 := cap_cell h
  have c5 := h.nine.c5
  clear h
  go_enter Tryz.func71, Tryz.ntmps71
  go_wp2
  go_ret2
  exact ⟨rfl, rfl⟩
theorem sector_any (b : Nat) (P : Ph) (L : Lg) (w : World) (h : Bus w b P L) : Calls Tryz.prog 75 #[.pointer (some ⟨P.cb, 0, none⟩)] w fun e w' => e = .returned (.tuple #[.int .u32 L.sc, .int .i64 0]) ∧ w' = w := by
  have c0 := cap_cell h
  have c5 := h.nine.c6
  clear h
  go_enter Tryz.func75, Tryz.ntmps75
  go_wp2
  go_ret2
  exact ⟨rfl, rfl⟩
theorem address_any (b : Nat) (P : Ph) (L : Lg) (w : World) (h : Bus w b P L) : Calls Tryz.prog 77 #[.pointer (some ⟨P.cb, 0, none⟩)] w fun e w' => e = .returned (.tuple #[.int .u32 L.ad, .int .i64 0]) ∧ w' = w := by
  have c0 := cap_cell h
  have c5 := h.nine.c7
  clear h
  go_enter Tryz.func77, Tryz.ntmps77
  go_wp2
  go_ret2
  exact ⟨rfl, rfl⟩
theorem commandL_any (b : Nat) (P : Ph) (L : Lg) (w : World) (h : Bus w b P L) : Calls Tryz.prog 79 #[.pointer (some ⟨P.cb, 0, none⟩)] w fun e w' => e = .returned (.tuple #[.int .u32 L.cm, .int .i64 0]) ∧ w' = w := by
  have c0 := cap_cell h
  have c5 := h.nine.c8
  clear h
  go_enter Tryz.func79, Tryz.ntmps79
  go_wp2
  go_ret2
  exact ⟨rfl, rfl⟩
theorem secs_any (b : Nat) (D : Dk) (w : World) (h : Rep w b D) : Calls Tryz.prog 82 #[.pointer (some ⟨b, 0, none⟩)] w fun e w' => e = .returned (.int .i64 D.n) ∧ w' = w := by
  have c0 := (h.cell 1).trans D.at1
  clear h
  go_enter Tryz.func82, Tryz.ntmps82
  go_wp2
  go_ret
  exact ⟨rfl, rfl⟩
theorem sectors_any (b : Nat) (P : Ph) (L : Lg) (w : World) (h : Bus w b P L) : Calls Tryz.prog 81 #[.pointer (some ⟨P.cb, 0, none⟩)] w fun e w' => e = .returned (.tuple #[.int .u32 L.n, .int .i64 0]) ∧ w' = w := by
  have c0 := cap_cell h
  have c5 := h.nine.c1
  have H : Hid (Bus w b P L) := h
  have n1 := h.dsk.n1
  have HN : Hid (P.D.n = L.n) := h.dn
  clear h
  go_enter Tryz.func81, Tryz.ntmps81
  go_wp2_with (go_at_call 82; refine (secs_any P.db P.D _ H.out.dsk).mono ?_; rintro e w1 ⟨rfl, hw⟩; obtain rfl := hw.symm)
  go_ret2
  exact ⟨by rw [← HN.out]; rfl, rfl⟩
theorem setSector_any (b : Nat) (P : Ph) (L : Lg) (v : Int) (w : World) (h : Bus w b P L) (v0 : 0 ≤ v) (v1 : v ≤ 4294967295) : Calls Tryz.prog 76 #[.int .u32 v, .pointer (some ⟨P.cb, 0, none⟩)] w fun e w' => e = .returned (.tuple #[]) ∧ Stp w b P w' P { L with sc := v } := by
  have c0 := cap_cell h
  have c5 := h.nine.c6
  have f0 := h.free (j := 6) (by omega)
  have H : Hid (Bus w b P L) := h
  clear h
  go_enter Tryz.func76, Tryz.ntmps76
  go_wp2
  go_end0
  exact ⟨rfl, Stp.put H.out (show Core w b P { L with sc := v } from { H.out.toCore with sc := ⟨v0, v1⟩ }) 6 _ rfl⟩
theorem setAddress_any (b : Nat) (P : Ph) (L : Lg) (v : Int) (w : World) (h : Bus w b P L) (v0 : 0 ≤ v) (v1 : v ≤ 4294967295) : Calls Tryz.prog 78 #[.int .u32 v, .pointer (some ⟨P.cb, 0, none⟩)] w fun e w' => e = .returned (.tuple #[]) ∧ Stp w b P w' P { L with ad := v } := by
  have c0 := cap_cell h
  have c5 := h.nine.c7
  have f0 := h.free (j := 7) (by omega)
  have H : Hid (Bus w b P L) := h
  clear h
  go_enter Tryz.func78, Tryz.ntmps78
  go_wp2
  go_end0
  exact ⟨rfl, Stp.put H.out (show Core w b P { L with ad := v } from { H.out.toCore with ad := ⟨v0, v1⟩ }) 7 _ rfl⟩
end Go.Proofs.YteegkhnikcioiaaGreatDoor

namespace Go.Proofs.YteegkhnikcioiaaGreatDoor
open Go.ChangeShapes Go.WideShapes Go.ChangeAt Go.RowKit
attribute [local go_sem ↓] loadSec_seal storeSec_seal eqlSec_seal zeroSec
attribute [local go_sem] loadSec_run storeSec_run rowAt_at rowAt_old rowAt_drew rowAt_drewN roomSec_new roomAt_old roomAt_drew roomAt_drewN putSec_new putRow_past rowSec_put size_put putRow_drew putRow_drewN alloc_drewN setCell_drewN sec_size

set_option linter.unusedVariables false

theorem mem_rd {w : World} {b : Nat} {P : Ph} {L : Lg} (h : Bus w b P L) : RdB w (some ⟨P.mb, 0, none⟩) 1048576 L.M := h.mem.rd (by decide) h.byte
theorem loadByte_out (b : Nat) (P : Ph) (L : Lg) (a : Int) (w : World) (h : Bus w b P L) (a0 : 0 ≤ a) (a1 : a ≤ 4294967295) (ha : 1048576 ≤ a) : Calls Tryz.prog 102 #[.pointer (some ⟨b, 0, none⟩), .int .u32 a] w fun e w' => e = .returned (.tuple #[.int .u32 0, .int .i64 1]) ∧ w' = w := by
  have H : Hid (Bus w b P L) := h
  have hd : decide (a < 1048576) = false := by simp; omega
  clear h
  go_enter Tryz.func102, Tryz.ntmps102
  go_wp2_with (go_at_call 130; refine (isMemory_any b P L a _ H.out a0 a1).mono ?_; rw [hd]; rintro e w1 ⟨rfl, hw⟩; obtain rfl := hw.symm)
  go_ret2
  exact ⟨rfl, rfl⟩
theorem loadByte_in (b : Nat) (P : Ph) (L : Lg) (a : Nat) (w : World) (h : Bus w b P L) (ha : a < 1048576) : Calls Tryz.prog 102 #[.pointer (some ⟨b, 0, none⟩), .int .u32 a] w fun e w' => e = .returned (.tuple #[.int .u32 (L.M a), .int .i64 0]) ∧ w' = w := by
  have H : Hid (Bus w b P L) := h
  have hd : decide ((a : Int) < 1048576) = true := by simp; omega
  have c0 := h.nine.c0
  have c1 := (h.mem.at ha).1
  have v := h.byte a ha
  have i0 : (0 : Int) ≤ (a : Int) := by omega
  have i1 : (a : Int) < 1048576 := by omega
  clear h
  go_enter Tryz.func102, Tryz.ntmps102
  go_wp2_with (go_at_call 130; refine (isMemory_any b P L a _ H.out (by omega) (by omega)).mono ?_; rw [hd]; rintro e w1 ⟨rfl, hw⟩; obtain rfl := hw.symm)
  go_ret2
  exact ⟨rfl, rfl⟩
theorem storeByte_out (b : Nat) (P : Ph) (L : Lg) (a v : Int) (w : World) (h : Bus w b P L) (a0 : 0 ≤ a) (a1 : a ≤ 4294967295) (ha : 1048576 ≤ a) : Calls Tryz.prog 104 #[.pointer (some ⟨b, 0, none⟩), .int .u32 a, .int .u8 v] w fun e w' => e = .returned (.int .i64 1) ∧ w' = w := by
  have H : Hid (Bus w b P L) := h
  have hd : decide (a < 1048576) = false := by simp; omega
  clear h
  go_enter Tryz.func104, Tryz.ntmps104
  go_wp2_with (go_at_call 130; refine (isMemory_any b P L a _ H.out a0 a1).mono ?_; rw [hd]; rintro e w1 ⟨rfl, hw⟩; obtain rfl := hw.symm)
  go_ret
  exact ⟨rfl, rfl⟩
theorem upd_byte {M : Nat → Int} {n : Nat} (h : ∀ i, i < n → 0 ≤ M i ∧ M i ≤ 255) (a : Nat) {v : Int} (v0 : 0 ≤ v) (v1 : v ≤ 255) : ∀ i, i < n → 0 ≤ upd M a v i ∧ upd M a v i ≤ 255 := fun i hi => by
  unfold upd; split
  · exact ⟨v0, v1⟩
  · exact h i hi
theorem storeByte_in (b : Nat) (P : Ph) (L : Lg) (a : Nat) (v : Int) (w : World) (h : Bus w b P L) (ha : a < 1048576) (v0 : 0 ≤ v) (v1 : v ≤ 255) : Calls Tryz.prog 104 #[.pointer (some ⟨b, 0, none⟩), .int .u32 a, .int .u8 v] w fun e w' => e = .returned (.int .i64 0) ∧ Stp w b P w' P { L with M := upd L.M a v } := by
  have H : Hid (Bus w b P L) := h
  have hd : decide ((a : Int) < 1048576) = true := by simp; omega
  have c0 := h.nine.c0
  have c1 := (h.mem.at ha).1
  have c2 := (h.mem.at ha).2
  have i0 : (0 : Int) ≤ (a : Int) := by omega
  have i1 : (a : Int) < 1048576 := by omega
  clear h
  go_enter Tryz.func104, Tryz.ntmps104
  go_wp2_with (go_at_call 130; refine (isMemory_any b P L a _ H.out (by omega) (by omega)).mono ?_; rw [hd]; rintro e w1 ⟨rfl, hw⟩; obtain rfl := hw.symm)
  go_ret
  exact ⟨rfl, Stp.mem H.out ((Tou.refl (fun x => x = P.mb) _).set ⟨P.mb, a, none⟩ rfl _) (H.out.mem.set ha v) (upd_byte H.out.byte a v0 v1)⟩
def isW (a : Int) : Bool := decide (a % 4 = 0 ∧ a < 1048576)
theorem fits_isW {a : Int} (a0 : 0 ≤ a) (h4 : a % 4 = 0) : fits 1048576 a = isW a := by
  unfold fits isW; exact decide_eq_decide.2 ⟨fun h => ⟨h4, by omega⟩, fun h => ⟨a0, by omega⟩⟩
def gotV (M : Nat → Int) (a : Int) : Int := if isW a then wordAt M a else 0
theorem word_any (b : Nat) (P : Ph) (L : Lg) (a : Int) (w : World) (h : Bus w b P L) (a0 : 0 ≤ a) (a1 : a ≤ 4294967295) : Calls Tryz.prog 46 #[.pointer (some ⟨b, 0, none⟩), .int .u32 a] w fun e w' => e = .returned (.tuple #[.int .u32 (gotV L.M a), .bool (isW a)]) ∧ Below w.heap.size w w' := by
  have HM : Hid (RdB w (some ⟨P.mb, 0, none⟩) 1048576 L.M) := mem_rd h
  have c0 := h.nine.c0
  clear h
  by_cases h4 : a % 4 = 0
  · have HF : Hid (fits 1048576 a = isW a) := fits_isW a0 h4
    go_enter Tryz.func46, Tryz.ntmps46
    go_wp2_with (go_at_call 58; refine (get_any _ 1048576 _ L.M _ _ HM.out).mono ?_; rintro e w1 ⟨rfl, hb⟩)
    go_ret2
    exact ⟨ret2b (by unfold gotW gotV; rw [HF.out]) HF.out, hb⟩
  · have hw : isW a = false := by unfold isW; simp [h4]
    have HW : Hid (isW a = false) := hw
    clear hw
    go_enter Tryz.func46, Tryz.ntmps46
    go_wp2
    go_ret2
    exact ⟨ret2b (by unfold gotV; rw [HW.out]; rfl) HW.out.symm, Below.refl _ _⟩
theorem part_byte {M : Nat → Int} {n : Nat} (h : ∀ i, i < n → 0 ≤ M i ∧ M i ≤ 255) (p : Nat) (v : Int) (k : Nat) : ∀ i, i < n → 0 ≤ partL M p v k i ∧ partL M p v k i ≤ 255 := fun i hi => by
  unfold partL; split
  · exact byteOf_bd _ _
  · exact h i hi
def pokeM (M : Nat → Int) (a v : Int) : Nat → Int := if isW a then partL M a.toNat v 4 else M
theorem poke_byte {M : Nat → Int} {n : Nat} (h : ∀ i, i < n → 0 ≤ M i ∧ M i ≤ 255) (a v : Int) : ∀ i, i < n → 0 ≤ pokeM M a v i ∧ pokeM M a v i ≤ 255 := fun i hi => by
  unfold pokeM; split
  · exact part_byte h _ _ _ i hi
  · exact h i hi
theorem poke_any (b : Nat) (P : Ph) (L : Lg) (a v : Int) (w : World) (h : Bus w b P L) (a0 : 0 ≤ a) (a1 : a ≤ 4294967295) : Calls Tryz.prog 109 #[.pointer (some ⟨b, 0, none⟩), .int .u32 a, .int .u32 v] w fun e w' => e = .returned (.bool (isW a)) ∧ Stp w b P w' P { L with M := pokeM L.M a v } := by
  have H : Hid (Bus w b P L) := h
  have c0 := h.nine.c0
  clear h
  by_cases h4 : a % 4 = 0
  · have HF : Hid (fits 1048576 a = isW a) := fits_isW a0 h4
    go_enter Tryz.func109, Tryz.ntmps109
    go_wp2_with (go_at_call 56; refine (put_any P.mb 1048576 _ L.M _ _ _ (by decide) H.out.mem).mono ?_; rintro e w1 ⟨rfl, hr, ht, hz⟩)
    go_ret
    refine ⟨ret_bool HF.out, Stp.mem H.out ht (hr.ext fun i _ => ?_) (poke_byte H.out.byte a v)⟩
    unfold putL pokeM; rw [HF.out]; split <;> rfl
  · have hw : isW a = false := by unfold isW; simp [h4]
    have HW : Hid (isW a = false) := hw
    clear hw
    go_enter Tryz.func109, Tryz.ntmps109
    go_wp2
    go_ret
    refine ⟨ret_bool HW.out.symm, ?_⟩
    have e : pokeM L.M a v = L.M := by unfold pokeM; rw [HW.out]; rfl
    rw [e]; exact Stp.refl H.out
end Go.Proofs.YteegkhnikcioiaaGreatDoor
