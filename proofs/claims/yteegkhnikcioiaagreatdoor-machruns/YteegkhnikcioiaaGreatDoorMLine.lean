/-
  Rows of bytes behind slices: what an append leaves; how they read as strings.
  Input and output of a bus.
-/
import Derived.Test.YteegkhnikcioiaaGreatDoorMMem
namespace Go.Proofs.YteegkhnikcioiaaGreatDoor
open Go.ChangeShapes Go.WideShapes Go.ChangeAt Go.RowKit
attribute [local go_sem ↓] loadSec_seal storeSec_seal eqlSec_seal zeroSec
attribute [local go_sem] loadSec_run storeSec_run rowAt_at rowAt_old rowAt_drew rowAt_drewN roomSec_new roomAt_old roomAt_drew roomAt_drewN putSec_new putRow_past rowSec_put size_put putRow_drew putRow_drewN alloc_drewN setCell_drewN sec_size

set_option linter.unusedVariables false

def bcells (f : List Int) : List Value := f.map fun x => .int .u8 x
theorem bcells_at (f : List Int) {i : Nat} (h : i < f.length) : (bcells f)[i]? = some (.int .u8 (f.getD i 0)) := by
  simp [bcells, List.getElem?_map, List.getElem?_eq_getElem h, List.getD]
theorem bcells_len (f : List Int) : (bcells f).length = f.length := by simp [bcells]
theorem bcells_one (f : List Int) : ∀ u ∈ bcells f, u.oneCell' = true := by
  intro u hu
  simp [bcells] at hu
  obtain ⟨i, _, rfl⟩ := hu
  rfl
theorem tou_setCells {M : Nat → Prop} {a : World} (b : Nat) (hb : M b) : ∀ (vs : List Value) (k : Nat) (w : World), Tou M a w → Tou M a (w.setCells b k vs)
  | [], _, _, h => h
  | v :: r, k, w, h => by rw [World.setCells]; exact tou_setCells b hb r (k + 1) _ (h.set ⟨b, k, none⟩ hb _)
theorem getD_append (f g : List Int) (i : Nat) : (f ++ g).getD i 0 = if i < f.length then f.getD i 0 else g.getD (i - f.length) 0 := by
  by_cases h : i < f.length
  · simp [List.getD, h, List.getElem?_append_left]
  · simp [List.getD, h, List.getElem?_append_right (Nat.le_of_not_lt h)]
theorem sr_none {w : World} {c : Nat} {f : List Int} (h : SRow w none c f) : f = [] ∧ c = 0 := by
  rcases h.row with ⟨_, h1, h2⟩ | ⟨g, off, cur, h0, _⟩
  · exact ⟨h1, h2⟩
  · cases h0
/-- Whatever is appended: where the row lies then, and what it reads as. -/
theorem srow_append {w : World} {a : Option Addr} {c : Nat} {f : List Int} (h : SRow w a c f) (tx ty : TypeId) (x : Value) (k : List Int) (hs : Src Tryz.prog 1 tx x k.length (bcells k) w) (hk : ∀ y ∈ k, 0 ≤ y ∧ y ≤ 255) (hl : f.length + k.length ≤ 70368744243200) :
    ∃ a' c' w', (Builtin.append_ #[49, tx] ty #[.slice a f.length c, x]).run Tryz.prog w = .ok (.slice a' (f.length + k.length) c') w' ∧ SRow w' a' c' (f ++ k) ∧ Tou (inB a) w w' ∧ (∀ x, inB a' x → inB a x ∨ w.heap.size ≤ x) ∧ (∀ x, inB a' x → x < w'.heap.size) := by
  obtain ⟨i0, hi, hz0, hz1, hz2⟩ := info_parts info5
  have hby : ∀ y ∈ f ++ k, 0 ≤ y ∧ y ≤ 255 := fun y hy => (List.mem_append.1 hy).elim (h.byte y) (hk y)
  have hs' : Src Tryz.prog i0.size tx x k.length (bcells k) w := by rw [hz1]; exact hs
  by_cases hroom : f.length + k.length ≤ c
  · rcases h.row with ⟨rfl, rfl, rfl⟩ | ⟨g, off, cur, rfl, hg, h1, h2, h3⟩
    · have hk0 : k = [] := List.length_eq_zero_iff.1 (by simpa using hroom)
      subst hk0
      refine ⟨none, 0, w, ?_, ⟨.inl ⟨rfl, rfl, rfl⟩, hby⟩, Tou.refl _ _, fun x hx => .inl hx, fun x ⟨p, hp, _⟩ => by cases hp⟩
      have hu := Tryz.underlying49
      have := hs.len w
      have h2 : (Builtin.firstCells 1 0 x).run Tryz.prog w = .ok (bcells []).toArray w := hs.cells
      rcases hs.kind with ⟨e', hk⟩ | hk <;> simp [Builtin.append_, run_underlying hu, run_underlying hk, sizeOf, typeInfo, hi, hz1, this, h2]
    · have hlt : g < w.heap.size := by
        rcases Nat.lt_or_ge g w.heap.size with h1 | h1
        · exact h1
        · rw [Array.getElem?_eq_none h1] at hg; cases hg
      have hcell : ∀ j, j < (bcells k).length → (w.cell? ⟨g, off + f.length * i0.size + j, none⟩).isSome = true := fun j hj => by
        rw [bcells_len] at hj
        rw [hz1, Nat.mul_one, cell_of_row w g _ cur 5 (0, 0) hg, Array.getElem?_eq_getElem (by omega)]; rfl
      have hr := run_append_room_src (P := Tryz.prog) w 49 tx ty 5 i0 Tryz.underlying49 hi g off f.length c x k.length (bcells k) hs' hroom hcell (fun j hj => by simp [World.frozen?, hg])
      rw [hz1, Nat.mul_one] at hr
      have ht : Tou (inB (some ⟨g, off, none⟩)) w (w.setCells g (off + f.length) (bcells k)) := tou_setCells g ⟨_, rfl, rfl⟩ _ _ _ (Tou.refl _ _)
      refine ⟨_, _, _, hr, ⟨.inr ⟨g, off, putList cur (off + f.length) (bcells k), rfl, setCells_heap _ _ _ _ hg, by rw [putList_size]; exact h1, by simpa using hroom, fun i hi => ?_⟩, hby⟩, ht, fun x hx => .inl hx, fun x ⟨p, hp, e⟩ => ?_⟩
      · have hi' : i < f.length + k.length := by simpa using hi
        rw [putList_at _ _ _ _ (by omega), getD_append, bcells_len]
        by_cases hif : i < f.length
        · rw [if_neg (by omega), if_pos hif]; exact h3 i hif
        · rw [if_pos (by omega), if_neg hif, show off + i - (off + f.length) = i - f.length by omega]
          exact bcells_at k (by omega)
      · cases hp; have := ht.size; simp only [] at e; omega
  · have hold : (Builtin.firstCells i0.size f.length (.slice a f.length c)).run Tryz.prog w.drew = .ok (bcells f).toArray w.drew := by
      rcases h.row with ⟨rfl, rfl, rfl⟩ | ⟨g, off, cur, rfl, hg, h1, h2, h3⟩
      · exact run_firstCells_none _ _ _ _ _
      · refine run_firstCells_some _ _ _ _ _ _ _ (by rw [bcells_len, hz1, Nat.mul_one]) fun j v hj => ?_
        have hjl : j < f.length := by have := (List.getElem?_eq_some_iff.1 hj).1; rwa [bcells_len] at this
        rw [Addr.add_mid, World.cell?_drew, cell_of_row w g _ cur 5 (0, 0) hg, h3 j hjl, ← hj, bcells_at f hjl]
    have hfit : Builtin.nextslicecap (f.length + k.length) c * i0.bytes ≤ 281474976710656 := by
      rw [hz2, Nat.mul_one]
      have := nextslicecap_le (need := f.length + k.length) (old := c) (by omega)
      omega
    have hr := run_append_grow_src (P := Tryz.prog) w 49 tx ty 5 i0 (.int .u8 0) Tryz.underlying49 hi hz0 a f.length c (bcells f) hold x k.length (bcells k) hs' (by omega) (by omega) hfit
    have hge := grownCap_ge w (f.length + k.length) c 5
    have hb : Below w.heap.size w (w.drew.alloc (.cells ((bcells f ++ bcells k).toArray ++ Builtin.zeroCells (Value.int .u8 0).cells (grownCap w (f.length + k.length) c 5 - (f.length + k.length))) 5)) := ((Below.refl _ w).drew).alloc (Nat.le_refl _) _
    refine ⟨_, _, _, hr, ⟨.inr ⟨w.heap.size, 0, _, rfl, heap_alloc_last w.drew _, ?_, by simpa using hge, fun i hi => ?_⟩, hby⟩, Below.tou hb _, fun x ⟨p, hp, e⟩ => .inr ?_, fun x ⟨p, hp, e⟩ => ?_⟩
    · have e1 : (Value.int .u8 0).cells.size = 1 := rfl
      rw [Array.size_append, size_zeroCells, e1]
      simp only [List.size_toArray, List.length_append, bcells_len]
      omega
    · have hi' : i < f.length + k.length := by simpa using hi
      have e2 : bcells f ++ bcells k = bcells (f ++ k) := by simp [bcells]
      rw [Nat.zero_add, e2, Array.getElem?_append_left (by simp [bcells_len]; omega)]
      simp only [List.getElem?_toArray]
      exact bcells_at _ hi
    · cases hp; simp only [] at e; omega
    · cases hp; simp only [] at e; simp; omega
/-- An append whose run is known, at the list of a plain region's operations. -/
theorem wpList_append_eq {P : Program} {w : World} {ops : Array Oper} {rest : List Oper} {o : Oper} {a : Act} {Q : Exit → Act → World → Prop} (hgd : o.guard = none) (s x : Operand) (t tx : TypeId)
    (ho : o.op = .call { callee := .builtin .append, args := #[s, x], argTypes := #[t, tx] }) (v u r : Value) (w' : World) (hs : a.eval s = v) (hx : a.eval x = u) (hr : (Builtin.append_ #[t, tx] o.type #[v, u]).run P w = .ok r w')
    (h : wpList P ops Q rest (a.put o.dst r) w') : wpList P ops Q (o :: rest) a w := by
  refine wpList_plain hgd fun K hK => ?_
  unfold Oper.wp execOp
  simp only [ho, resolve, invoke, builtin, Sem.run_bind, Sem.run_pure, Result.andThen_ok, List.map_toArray, List.map_cons, List.map_nil, hs, hx, hr]
  exact hK _ _ h
end Go.Proofs.YteegkhnikcioiaaGreatDoor

namespace Go.Proofs.YteegkhnikcioiaaGreatDoor
open Go.ChangeShapes Go.WideShapes Go.ChangeAt Go.RowKit
attribute [local go_sem ↓] loadSec_seal storeSec_seal eqlSec_seal zeroSec
attribute [local go_sem] loadSec_run storeSec_run rowAt_at rowAt_old rowAt_drew rowAt_drewN roomSec_new roomAt_old roomAt_drew roomAt_drewN putSec_new putRow_past rowSec_put size_put putRow_drew putRow_drewN alloc_drewN setCell_drewN sec_size

set_option linter.unusedVariables false

theorem SRow.rd {w : World} {a : Option Addr} {c : Nat} {f : List Int} (h : SRow w a c f) (hl : f.length ≤ maxLen) : RdB w a f.length (fun i => f.getD i 0) := by
  refine ⟨hl, ?_⟩
  rcases h.row with ⟨rfl, rfl, rfl⟩ | ⟨g, off, cur, rfl, hg, h1, h2, h3⟩
  · exact .inl rfl
  · refine .inr ⟨g, off, rfl, fun i hi => ⟨(cell_of_row w g _ cur 5 (0, 0) hg).trans (h3 i hi), h.byte _ ?_⟩⟩
    simp [List.getD, List.getElem?_eq_getElem hi]
def strO (f : List Int) : ByteArray := strF (fun i => f.getD i 0) f.length
theorem out_any (b : Nat) (P : Ph) (L : Lg) (w : World) (h : Bus w b P L) : Calls Tryz.prog 40 #[.pointer (some ⟨b, 0, none⟩)] w fun e w' => e = .returned (.string (strO L.O)) ∧ w' = w := by
  have c4 := h.nine.c4
  have hc : ∀ cap, (convert 49 9 (.slice P.oa L.O.length cap)).run Tryz.prog w = .ok (.string (strO L.O)) w := fun cap => conv_str cap (h.out.rd (by have := h.ol; unfold maxLen; omega))
  clear h
  go_enter Tryz.func40, Tryz.ntmps40
  go_wp2
  go_ret
  exact ⟨rfl, rfl⟩
theorem SRow.one {w : World} {a : Option Addr} {c : Nat} {x : Int} {r : List Int} (h : SRow w a c (x :: r)) : ∃ g off, a = some ⟨g, off, none⟩ ∧ w.cell? ⟨g, off, none⟩ = some (.int .u8 x) ∧ r.length + 1 ≤ c ∧ SRow w (some ⟨g, off + 1, none⟩) (c - 1) r ∧ (c = 1 → SRow w (some ⟨g, off, none⟩) 0 r) := by
  rcases h.row with ⟨_, h0, _⟩ | ⟨g, off, cur, rfl, hg, h1, h2, h3⟩
  · cases h0
  · have h2 : r.length + 1 ≤ c := by simpa using h2
    refine ⟨g, off, rfl, ?_, h2, ⟨.inr ⟨g, off + 1, cur, rfl, hg, by omega, by omega, fun i hi => ?_⟩, fun y hy => h.byte y (by simp [hy])⟩, fun e => ⟨.inr ⟨g, off, cur, rfl, hg, by omega, by omega, fun i hi => by omega⟩, fun y hy => h.byte y (by simp [hy])⟩⟩
    · have := h3 0 (by simp)
      rw [cell_of_row w g _ cur 5 (0, 0) hg]; simpa using this
    · have := h3 (i + 1) (by simp; omega)
      rw [show off + 1 + i = off + (i + 1) by omega, this]; simp
theorem take_none (b : Nat) (P : Ph) (L : Lg) (w : World) (h : Bus w b P L) (hI : L.I = []) : Calls Tryz.prog 72 #[.pointer (some ⟨b, 0, none⟩)] w fun e w' => e = .returned (.tuple #[.int .u32 0, .int .i64 2]) ∧ w' = w := by
  have c3 := h.nine.c3
  rw [hI] at c3
  clear h
  go_enter Tryz.func72, Tryz.ntmps72
  go_wp2
  go_ret2
  exact ⟨rfl, rfl⟩
theorem take_end {w : World} {b : Nat} {P : Ph} {L : Lg} (h : Bus w b P L) {x : Int} {r : List Int} (hI : L.I = x :: r) {a' : Option Addr} {c' : Nat} (hS : SRow w a' c' r) (ha : ∀ y, inB a' y → inB P.ia y) : Stp w b P (w.setCell ⟨b, 3, none⟩ (.slice a' r.length c')) { P with ia := a', ic := c' } { L with I := r } := by
  obtain ⟨t, ht⟩ := h.tag
  have hl := h.il
  rw [hI] at hl
  simp only [List.length_cons] at hl
  have hal : ∀ y, Ph.all { P with ia := a', ic := c' } b y → P.all b y := by
    rintro y (e | e | e | e | e | e)
    · exact .inl e
    · exact .inr (.inl e)
    · exact .inr (.inr (.inl e))
    · exact .inr (.inr (.inr (.inl e)))
    · exact .inr (.inr (.inr (.inr (.inl (ha y e)))))
    · exact .inr (.inr (.inr (.inr (.inr e))))
  have hc : Core w b { P with ia := a', ic := c' } { L with I := r } := { h.toCore with inp := hS, il := (by show r.length ≤ 65536; omega), tag := ⟨t, { ht with ia := fun y hy => ht.ia y (ha y hy) }⟩, lt := fun y hy => h.lt y (hal y hy) }
  exact ⟨hc.put h.blk h.room 3 _ rfl, (Tou.refl _ _).set ⟨b, 3, none⟩ (.inl rfl) _, fun y hy => .inl (hal y hy), rfl⟩
theorem take_one (b : Nat) (P : Ph) (L : Lg) (w : World) (x : Int) (r : List Int) (h : Bus w b P L) (hI : L.I = x :: r) : Calls Tryz.prog 72 #[.pointer (some ⟨b, 0, none⟩)] w fun e w' => e = .returned (.tuple #[.int .u32 x, .int .i64 0]) ∧ ∃ P', Stp w b P w' P' { L with I := r } := by
  have c3 := h.nine.c3
  have f3 := h.free (j := 3) (by omega)
  have hr := h.inp
  have hl := h.il
  rw [hI] at c3 hr hl
  simp only [List.length_cons] at hl c3
  obtain ⟨g, off, hia, hc, hcc, hS, hS1⟩ := hr.one
  rw [hia] at c3
  have HS : Hid _ := hS
  have HS1 : Hid _ := hS1
  have xb := hr.byte x (by simp)
  have H : Hid (Bus w b P L) := h
  have HI : Hid (P.ia = some ⟨g, off, none⟩) := hia
  have HL : Hid (L.I = x :: r) := hI
  have e0 : ((r.length : Int) + 1 == 0) = false := by simp; omega
  have HE : Hid (∀ off', ∀ y, inB (some ⟨g, off', none⟩) y → inB P.ia y) := fun off' y ⟨p, hp, e⟩ => ⟨_, hia, by cases hp; exact e⟩
  clear h hS hS1 hr hI hia
  go_enter Tryz.func72, Tryz.ntmps72
  by_cases h1 : P.ic = 1
  · have HR : Hid (P.ic - 1 = 0) := by show P.ic - 1 = 0; omega
    have hr0 : r.length = 0 := by omega
    go_wp2
    go_ret2
    have e := take_end H.out HL.out (HS1.out h1) (HE.out off)
    rw [hr0] at e
    exact ⟨rfl, _, by simpa using e⟩
  · go_wp2
    go_ret2
    exact ⟨rfl, _, take_end H.out HL.out HS.out (HE.out (off + 1))⟩
def bytesL (s : ByteArray) : List Int := s.data.toList.map fun x => (x.toNat : Int)
theorem bytesL_len (s : ByteArray) : (bytesL s).length = s.size := by simp [bytesL]
theorem bytesL_byte (s : ByteArray) : ∀ y ∈ bytesL s, 0 ≤ y ∧ y ≤ 255 := by
  intro y hy
  simp [bytesL] at hy
  obtain ⟨x, _, rfl⟩ := hy
  have := x.toNat_lt
  omega
theorem src_string (w : World) (s : ByteArray) : Src Tryz.prog 1 9 (.string s) (bytesL s).length (bcells (bytesL s)) w := by
  have e : bcells (bytesL s) = byteCells s := by simp [bcells, bytesL, byteCells]
  rw [bytesL_len, e]
  exact Src.ofString w Tryz.underlying9 s
theorem feed_full (b : Nat) (P : Ph) (L : Lg) (s : ByteArray) (w : World) (h : Bus w b P L) (hs : s.size ≤ maxLen) (hf : 65536 < s.size + L.I.length) : Calls Tryz.prog 37 #[.pointer (some ⟨b, 0, none⟩), .string s] w fun e w' => e = .returned (.int .i64 40) ∧ w' = w := by
  have c3 := h.nine.c3
  have hl := h.il
  have h1 : (65536 : Int) - (L.I.length : Int) < (s.size : Int) := by omega
  unfold maxLen at hs
  clear h
  go_enter Tryz.func37, Tryz.ntmps37
  go_wp2
  go_ret
  exact ⟨rfl, rfl⟩
theorem in_end {w w1 : World} {b : Nat} {P : Ph} {L : Lg} (h : Bus w b P L) {I' : List Int} {a' : Option Addr} {c' : Nat} (ht : Tou (inB P.ia) w w1) (hS : SRow w1 a' c' I') (hl : I'.length ≤ 65536) (ha : ∀ y, inB a' y → inB P.ia y ∨ w.heap.size ≤ y) (hlt : ∀ y, inB a' y → y < w1.heap.size) : Stp w b P (w1.setCell ⟨b, 3, none⟩ (.slice a' I'.length c')) { P with ia := a', ic := c' } { L with I := I' } := by
  obtain ⟨t, hg⟩ := h.tag
  have old : ∀ y, P.all b y → t y ≠ 4 → w1.heap[y]? = w.heap[y]? := fun y hy h4 => ht.block y (h.lt y hy) fun e => h4 (hg.ia y e)
  have hal : ∀ y, Ph.all { P with ia := a', ic := c' } b y → P.all b y ∨ w.heap.size ≤ y := by
    rintro y (e | e | e | e | e | e)
    · exact .inl (.inl e)
    · exact .inl (.inr (.inl e))
    · exact .inl (.inr (.inr (.inl e)))
    · exact .inl (.inr (.inr (.inr (.inl e))))
    · exact (ha y e).imp (fun e => .inr (.inr (.inr (.inr (.inl e))))) id
    · exact .inl (.inr (.inr (.inr (.inr (.inr e)))))
  have t4 : ∀ y, t y = 0 ∨ t y = 1 ∨ t y = 2 ∨ t y = 3 ∨ t y = 5 ∨ t y = 6 → t y ≠ 4 := fun y => by omega
  have hb := old b (.inl rfl) (t4 _ (.inl hg.b))
  have hc : Core w1 b { P with ia := a', ic := c' } { L with I := I' } := {
    mem := h.mem.same (old _ (.inr (.inl rfl)) (t4 _ (.inr (.inl hg.mb))))
    byte := h.byte
    dsk := h.dsk.keep ht.size fun x hx => old x (.inr (.inr (.inr (.inr (.inr (.inr hx)))))) (t4 _ (.inr (.inr (.inr (.inr (.inr (hg.D x hx)))))))
    dn := h.dn
    dS := h.dS
    dm := h.dm
    dev := (rowAt_same (old _ (.inr (.inr (.inl rfl))) (t4 _ (.inr (.inr (.inl hg.vb)))))).trans h.dev
    cap := (rowAt_same (old _ (.inr (.inr (.inr (.inl rfl)))) (t4 _ (.inr (.inr (.inr (.inl hg.cb))))))).trans h.cap
    inp := hS
    out := h.out.same fun x hx => old x (.inr (.inr (.inr (.inr (.inr (.inl hx)))))) (t4 _ (.inr (.inr (.inr (.inr (.inl (hg.oa x hx)))))))
    il := hl
    ol := h.ol
    tk := h.tk
    sc := h.sc
    ad := h.ad
    cm := h.cm
    tag := ⟨fun y => if y < w.heap.size then t y else 4, {
      b := (if_pos h.blt).trans hg.b
      mb := (if_pos (h.lt _ (.inr (.inl rfl)))).trans hg.mb
      vb := (if_pos (h.lt _ (.inr (.inr (.inl rfl))))).trans hg.vb
      cb := (if_pos (h.lt _ (.inr (.inr (.inr (.inl rfl)))))).trans hg.cb
      ia := fun y hy => by
        rcases ha y hy with e | e
        · exact (if_pos (h.lt y (.inr (.inr (.inr (.inr (.inl e))))))).trans (hg.ia y e)
        · exact if_neg (by omega)
      oa := fun y hy => (if_pos (h.lt y (.inr (.inr (.inr (.inr (.inr (.inl hy)))))))).trans (hg.oa y hy)
      D := fun y hy => (if_pos (h.lt y (.inr (.inr (.inr (.inr (.inr (.inr hy)))))))).trans (hg.D y hy) }⟩
    lt := fun y hy => by
      rcases hy with e | e | e | e | e | e
      · exact Nat.lt_of_lt_of_le (h.lt y (.inl e)) ht.size
      · exact Nat.lt_of_lt_of_le (h.lt y (.inr (.inl e))) ht.size
      · exact Nat.lt_of_lt_of_le (h.lt y (.inr (.inr (.inl e)))) ht.size
      · exact Nat.lt_of_lt_of_le (h.lt y (.inr (.inr (.inr (.inl e))))) ht.size
      · exact hlt y e
      · exact Nat.lt_of_lt_of_le (h.lt y (.inr (.inr (.inr (.inr (.inr e)))))) ht.size }
  have hT : Tou (P.all b) w w1 := ⟨ht.os, ht.tape, ht.output, ht.size, fun k hk hm => ht.block k hk fun e => hm (.inr (.inr (.inr (.inr (.inl e)))))⟩
  exact ⟨hc.put ((rowAt_same hb).trans h.blk) ((roomAt_same hb).trans h.room) 3 _ rfl, hT.set ⟨b, 3, none⟩ (.inl rfl) _, hal, rfl⟩
theorem feed_ok (b : Nat) (P : Ph) (L : Lg) (s : ByteArray) (w : World) (h : Bus w b P L) (hf : s.size + L.I.length ≤ 65536) : Calls Tryz.prog 37 #[.pointer (some ⟨b, 0, none⟩), .string s] w fun e w' => e = .returned (.int .i64 0) ∧ ∃ P', Stp w b P w' P' { L with I := L.I ++ bytesL s } := by
  obtain ⟨a', c', w1, hr, hS, ht, ha, hlt⟩ := srow_append h.inp 9 49 (.string s) (bytesL s) (src_string w s) (bytesL_byte s) (by rw [bytesL_len]; omega)
  rw [bytesL_len] at hr
  have hl := h.il
  have h1 : ¬ ((65536 : Int) - (L.I.length : Int) < (s.size : Int)) := by omega
  have c3 := h.nine.c3
  obtain ⟨t, hg⟩ := h.tag
  have hbb : w1.heap[b]? = w.heap[b]? := ht.block b h.blt hg.ne.2.2.2.2.2.1
  have c3' : w1.cell? ⟨b, 3, none⟩ = some (.slice P.ia L.I.length P.ic) := (World.cell?_of_block hbb).trans c3
  have f3 : w1.frozen? ⟨b, 3, none⟩ = false := (World.frozen?_of_block hbb).trans (h.free (j := 3) (by omega))
  have HE : Hid (Stp w b P (w1.setCell ⟨b, 3, none⟩ (.slice a' (L.I.length + s.size) c')) { P with ia := a', ic := c' } { L with I := L.I ++ bytesL s }) := by
    have := in_end h ht hS (by rw [List.length_append, bytesL_len]; omega) ha hlt
    rw [List.length_append, bytesL_len] at this
    exact this
  have HR : Hid _ := hr
  clear h hS ht ha hlt hg hbb hr
  go_enter Tryz.func37, Tryz.ntmps37
  go_wp2_with (at_builtin; refine wpList_append_eq rfl _ _ _ _ rfl _ _ _ _ rfl rfl HR.out ?_)
  go_ret
  exact ⟨rfl, _, HE.out⟩
theorem out_end {w w1 : World} {b : Nat} {P : Ph} {L : Lg} (h : Bus w b P L) {O' : List Int} {a' : Option Addr} {c' : Nat} (ht : Tou (inB P.oa) w w1) (hS : SRow w1 a' c' O') (hl : O'.length ≤ 65536) (ha : ∀ y, inB a' y → inB P.oa y ∨ w.heap.size ≤ y) (hlt : ∀ y, inB a' y → y < w1.heap.size) : Stp w b P (w1.setCell ⟨b, 4, none⟩ (.slice a' O'.length c')) { P with oa := a', oc := c' } { L with O := O' } := by
  obtain ⟨t, hg⟩ := h.tag
  have old : ∀ y, P.all b y → t y ≠ 5 → w1.heap[y]? = w.heap[y]? := fun y hy h4 => ht.block y (h.lt y hy) fun e => h4 (hg.oa y e)
  have hal : ∀ y, Ph.all { P with oa := a', oc := c' } b y → P.all b y ∨ w.heap.size ≤ y := by
    rintro y (e | e | e | e | e | e | e)
    · exact .inl (.inl e)
    · exact .inl (.inr (.inl e))
    · exact .inl (.inr (.inr (.inl e)))
    · exact .inl (.inr (.inr (.inr (.inl e))))
    · exact .inl (.inr (.inr (.inr (.inr (.inl e)))))
    · exact (ha y e).imp (fun e => .inr (.inr (.inr (.inr (.inr (.inl e)))))) id
    · exact .inl (.inr (.inr (.inr (.inr (.inr (.inr e))))))
  have t4 : ∀ y, t y = 0 ∨ t y = 1 ∨ t y = 2 ∨ t y = 3 ∨ t y = 4 ∨ t y = 6 → t y ≠ 5 := fun y => by omega
  have hb := old b (.inl rfl) (t4 _ (.inl hg.b))
  have hc : Core w1 b { P with oa := a', oc := c' } { L with O := O' } := {
    mem := h.mem.same (old _ (.inr (.inl rfl)) (t4 _ (.inr (.inl hg.mb))))
    byte := h.byte
    dsk := h.dsk.keep ht.size fun x hx => old x (.inr (.inr (.inr (.inr (.inr (.inr hx)))))) (t4 _ (.inr (.inr (.inr (.inr (.inr (hg.D x hx)))))))
    dn := h.dn
    dS := h.dS
    dm := h.dm
    dev := (rowAt_same (old _ (.inr (.inr (.inl rfl))) (t4 _ (.inr (.inr (.inl hg.vb)))))).trans h.dev
    cap := (rowAt_same (old _ (.inr (.inr (.inr (.inl rfl)))) (t4 _ (.inr (.inr (.inr (.inl hg.cb))))))).trans h.cap
    inp := h.inp.same fun x hx => old x (.inr (.inr (.inr (.inr (.inl hx))))) (t4 _ (.inr (.inr (.inr (.inr (.inl (hg.ia x hx)))))))
    out := hS
    il := h.il
    ol := hl
    tk := h.tk
    sc := h.sc
    ad := h.ad
    cm := h.cm
    tag := ⟨fun y => if y < w.heap.size then t y else 5, {
      b := (if_pos h.blt).trans hg.b
      mb := (if_pos (h.lt _ (.inr (.inl rfl)))).trans hg.mb
      vb := (if_pos (h.lt _ (.inr (.inr (.inl rfl))))).trans hg.vb
      cb := (if_pos (h.lt _ (.inr (.inr (.inr (.inl rfl)))))).trans hg.cb
      ia := fun y hy => (if_pos (h.lt y (.inr (.inr (.inr (.inr (.inl hy))))))).trans (hg.ia y hy)
      oa := fun y hy => by
        rcases ha y hy with e | e
        · exact (if_pos (h.lt y (.inr (.inr (.inr (.inr (.inr (.inl e)))))))).trans (hg.oa y e)
        · exact if_neg (by omega)
      D := fun y hy => (if_pos (h.lt y (.inr (.inr (.inr (.inr (.inr (.inr hy)))))))).trans (hg.D y hy) }⟩
    lt := fun y hy => by
      rcases hy with e | e | e | e | e | e | e
      · exact Nat.lt_of_lt_of_le (h.lt y (.inl e)) ht.size
      · exact Nat.lt_of_lt_of_le (h.lt y (.inr (.inl e))) ht.size
      · exact Nat.lt_of_lt_of_le (h.lt y (.inr (.inr (.inl e)))) ht.size
      · exact Nat.lt_of_lt_of_le (h.lt y (.inr (.inr (.inr (.inl e))))) ht.size
      · exact Nat.lt_of_lt_of_le (h.lt y (.inr (.inr (.inr (.inr (.inl e)))))) ht.size
      · exact hlt y e
      · exact Nat.lt_of_lt_of_le (h.lt y (.inr (.inr (.inr (.inr (.inr (.inr e))))))) ht.size }
  have hT : Tou (P.all b) w w1 := ⟨ht.os, ht.tape, ht.output, ht.size, fun k hk hm => ht.block k hk fun e => hm (.inr (.inr (.inr (.inr (.inr (.inl e))))))⟩
  exact ⟨hc.put ((rowAt_same hb).trans h.blk) ((roomAt_same hb).trans h.room) 4 _ rfl, hT.set ⟨b, 4, none⟩ (.inl rfl) _, hal, rfl⟩
theorem src_byte (w : World) (x : Int) (t : TypeId) (k : Nat) (hk : k = w.heap.size) : Src Tryz.prog 1 49 (.slice (some ⟨k, 0, none⟩) 1 1) [x].length (bcells [x]) (w.alloc (.cells #[.int .u8 x] t)) := by
  subst hk
  refine Src.ofSlice _ Tryz.underlying49 _ 1 1 _ rfl (fun j u hj => ?_) (bcells_one _)
  have hl := (List.getElem?_eq_some_iff.1 hj).1
  simp [bcells] at hl
  subst hl
  simp [bcells] at hj
  subst hj
  rw [add_lit0]; simp
theorem putOut_full (b : Nat) (P : Ph) (L : Lg) (v : Int) (w : World) (h : Bus w b P L) (hf : 65536 ≤ L.O.length) : Calls Tryz.prog 73 #[.pointer (some ⟨b, 0, none⟩), .int .u32 v] w fun e w' => e = .returned (.tuple #[]) ∧ w' = w := by
  have c4 := h.nine.c4
  have h1 : ¬ ((L.O.length : Int) < 65536) := by omega
  clear h
  go_enter Tryz.func73, Tryz.ntmps73
  go_wp2
  go_end0
  exact ⟨rfl, rfl⟩
theorem putOut_ok (b : Nat) (P : Ph) (L : Lg) (v : Int) (w : World) (h : Bus w b P L) (hf : L.O.length < 65536) : Calls Tryz.prog 73 #[.pointer (some ⟨b, 0, none⟩), .int .u32 v] w fun e w' => e = .returned (.tuple #[]) ∧ ∃ P', Stp w b P w' P' { L with O := L.O ++ [v % 256] } := by
  have hb0 : Below w.heap.size w (w.alloc (.cells #[.int .u8 (v % 256)] 5)) := (Below.refl _ w).alloc (Nat.le_refl _) _
  have h' := h.below hb0
  obtain ⟨a', c', w1, hr, hS, ht, ha, hlt⟩ := srow_append h'.out 49 49 _ [v % 256] (src_byte w (v % 256) 5 _ rfl) (by intro y hy; simp at hy; subst hy; omega) (by simp; omega)
  have h1 : (L.O.length : Int) < 65536 := by omega
  have c4 := h.nine.c4
  obtain ⟨t, hg⟩ := h'.tag
  have hbb : w1.heap[b]? = (w.alloc (.cells #[.int .u8 (v % 256)] 5)).heap[b]? := ht.block b h'.blt hg.ne.2.2.2.2.2.2.1
  have c4' : w1.cell? ⟨b, 4, none⟩ = some (.slice P.oa L.O.length P.oc) := (World.cell?_of_block hbb).trans h'.nine.c4
  have f4 : w1.frozen? ⟨b, 4, none⟩ = false := (World.frozen?_of_block hbb).trans (h'.free (j := 4) (by omega))
  have HE : Hid (Stp w b P (w1.setCell ⟨b, 4, none⟩ (.slice a' (L.O.length + 1) c')) { P with oa := a', oc := c' } { L with O := L.O ++ [v % 256] }) := by
    have e := out_end h' ht hS (by simp; omega) ha hlt
    rw [List.length_append] at e
    exact (Stp.below h hb0).trans e
  have HR : Hid _ := hr
  clear h h' hS ht ha hlt hg hbb hr hb0
  go_enter Tryz.func73, Tryz.ntmps73
  go_wp2_with (at_builtin; refine wpList_append_eq rfl _ _ _ _ rfl _ _ _ _ rfl rfl HR.out ?_)
  go_end0
  exact ⟨rfl, _, HE.out⟩
end Go.Proofs.YteegkhnikcioiaaGreatDoor
