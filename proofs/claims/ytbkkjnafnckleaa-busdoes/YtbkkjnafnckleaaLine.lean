/-
  Input and output of a bus.
-/
import Derived.Test.YtbkkjnafnckleaaSRow
namespace Go.Proofs.Ytbkkjnafnckleaa
open Go.ChangeShapes Go.WideShapes Go.ChangeAt Go.RowKit
attribute [local go_sem ↓] loadSec_seal storeSec_seal eqlSec_seal zeroSec
attribute [local go_sem] loadSec_run storeSec_run rowAt_at rowAt_old rowAt_drew rowAt_drewN roomSec_new roomAt_old roomAt_drew roomAt_drewN putSec_new putRow_past rowSec_put size_put putRow_drew putRow_drewN alloc_drewN setCell_drewN sec_size

set_option linter.unusedVariables false

theorem SRow.rd {w : World} {a : Option Addr} {c : Nat} {f : List Int} (h : SRow w a c f) (hl : f.length ≤ maxLen) : RdB w a f.length (fun i => f.getD i 0) := by
  refine ⟨hl, ?_⟩
  rcases h.row with ⟨rfl, rfl, rfl⟩ | ⟨g, off, cur, rfl, hg, h1, h2, h3⟩
  · exact .inl rfl
  · refine .inr ⟨g, off, rfl, fun i hi => ⟨(cell_of_row w g _ cur 5 (0, 0) hg).trans (h3 i hi), h.byte _ ?_⟩⟩
    simp [List.getD, List.getElem?_eq_getElem hi]
def strO (f : List Int) : ByteArray := strF (fun i => f.getD i 0) f.length
theorem out_any (b : Nat) (P : Ph) (L : Lg) (w : World) (h : Bus w b P L) : Calls Try.prog 22 #[.pointer (some ⟨b, 0, none⟩)] w fun e w' => e = .returned (.string (strO L.O)) ∧ w' = w := by
  have c4 := h.nine.c4
  have hc : ∀ cap, (convert 35 9 (.slice P.oa L.O.length cap)).run Try.prog w = .ok (.string (strO L.O)) w := fun cap => conv_str cap (h.out.rd (by have := h.ol; unfold maxLen; omega))
  clear h
  go_enter Try.func22, Try.ntmps22
  go_wp2
  go_ret
  exact ⟨rfl, rfl⟩
theorem SRow.one {w : World} {a : Option Addr} {c : Nat} {x : Int} {r : List Int} (h : SRow w a c (x :: r)) : ∃ g off, a = some ⟨g, off, none⟩ ∧ w.cell? ⟨g, off, none⟩ = some (.int .u8 x) ∧ r.length + 1 ≤ c ∧ SRow w (some ⟨g, off + 1, none⟩) (c - 1) r ∧ (c = 1 → SRow w (some ⟨g, off, none⟩) 0 r) := by
  rcases h.row with ⟨_, h0, _⟩ | ⟨g, off, cur, rfl, hg, h1, h2, h3⟩
  · cases h0
  · have h2 : r.length + 1 ≤ c := by simpa using h2
    refine ⟨g, off, rfl, ?_, h2, ⟨.inr ⟨g, off + 1, cur, rfl, hg, by omega, by omega, fun i hi => ?_⟩, fun y hy => h.byte y (by simp [hy])⟩, fun e => ⟨.inr ⟨g, off, cur, rfl, hg, by omega, by omega, fun i hi => by omega⟩, fun y hy => h.byte y (by simp [hy])⟩⟩
    · have := h3 0 (by simp)
      rw [cell_of_row w g _ cur 5 (0, 0) hg]; simpa using this
    · have := h3 (i + 1) (by simp; omega)
      rw [show off + 1 + i = off + (i + 1) by omega, this]; simp
theorem take_none (b : Nat) (P : Ph) (L : Lg) (w : World) (h : Bus w b P L) (hI : L.I = []) : Calls Try.prog 57 #[.pointer (some ⟨b, 0, none⟩)] w fun e w' => e = .returned (.tuple #[.int .u32 0, .int .i64 2]) ∧ w' = w := by
  have c3 := h.nine.c3
  rw [hI] at c3
  clear h
  go_enter Try.func57, Try.ntmps57
  go_wp2
  go_ret2
  exact ⟨rfl, rfl⟩
theorem take_end {w : World} {b : Nat} {P : Ph} {L : Lg} (h : Bus w b P L) {x : Int} {r : List Int} (hI : L.I = x :: r) {a' : Option Addr} {c' : Nat} (hS : SRow w a' c' r) (ha : ∀ y, inB a' y → inB P.ia y) : Stp w b P (w.setCell ⟨b, 3, none⟩ (.slice a' r.length c')) { P with ia := a', ic := c' } { L with I := r } := by
  obtain ⟨t, ht⟩ := h.tag
  have hl := h.il
  rw [hI] at hl
  simp only [List.length_cons] at hl
  have hal : ∀ y, Ph.all { P with ia := a', ic := c' } b y → P.all b y := by
    rintro y (e | e | e | e | e | e)
    · exact .inl e
    · exact .inr (.inl e)
    · exact .inr (.inr (.inl e))
    · exact .inr (.inr (.inr (.inl e)))
    · exact .inr (.inr (.inr (.inr (.inl (ha y e)))))
    · exact .inr (.inr (.inr (.inr (.inr e))))
  have hc : Core w b { P with ia := a', ic := c' } { L with I := r } := { h.toCore with inp := hS, il := (by show r.length ≤ 65536; omega), tag := ⟨t, { ht with ia := fun y hy => ht.ia y (ha y hy) }⟩, lt := fun y hy => h.lt y (hal y hy) }
  exact ⟨hc.put h.blk h.room 3 _ rfl, (Tou.refl _ _).set ⟨b, 3, none⟩ (.inl rfl) _, fun y hy => .inl (hal y hy), rfl⟩
theorem take_one (b : Nat) (P : Ph) (L : Lg) (w : World) (x : Int) (r : List Int) (h : Bus w b P L) (hI : L.I = x :: r) : Calls Try.prog 57 #[.pointer (some ⟨b, 0, none⟩)] w fun e w' => e = .returned (.tuple #[.int .u32 x, .int .i64 0]) ∧ ∃ P', Stp w b P w' P' { L with I := r } := by
  have c3 := h.nine.c3
  have f3 := h.free (j := 3) (by omega)
  have hr := h.inp
  have hl := h.il
  rw [hI] at c3 hr hl
  simp only [List.length_cons] at hl c3
  obtain ⟨g, off, hia, hc, hcc, hS, hS1⟩ := hr.one
  rw [hia] at c3
  have HS : Hid _ := hS
  have HS1 : Hid _ := hS1
  have xb := hr.byte x (by simp)
  have H : Hid (Bus w b P L) := h
  have HI : Hid (P.ia = some ⟨g, off, none⟩) := hia
  have HL : Hid (L.I = x :: r) := hI
  have e0 : ((r.length : Int) + 1 == 0) = false := by simp; omega
  have HE : Hid (∀ off', ∀ y, inB (some ⟨g, off', none⟩) y → inB P.ia y) := fun off' y ⟨p, hp, e⟩ => ⟨_, hia, by cases hp; exact e⟩
  clear h hS hS1 hr hI hia
  go_enter Try.func57, Try.ntmps57
  by_cases h1 : P.ic = 1
  · have HR : Hid (P.ic - 1 = 0) := by show P.ic - 1 = 0; omega
    have hr0 : r.length = 0 := by omega
    go_wp2
    go_ret2
    have e := take_end H.out HL.out (HS1.out h1) (HE.out off)
    rw [hr0] at e
    exact ⟨rfl, _, by simpa using e⟩
  · go_wp2
    go_ret2
    exact ⟨rfl, _, take_end H.out HL.out HS.out (HE.out (off + 1))⟩
def bytesL (s : ByteArray) : List Int := s.data.toList.map fun x => (x.toNat : Int)
theorem bytesL_len (s : ByteArray) : (bytesL s).length = s.size := by simp [bytesL]
theorem bytesL_byte (s : ByteArray) : ∀ y ∈ bytesL s, 0 ≤ y ∧ y ≤ 255 := by
  intro y hy
  simp [bytesL] at hy
  obtain ⟨x, _, rfl⟩ := hy
  have := x.toNat_lt
  omega
theorem src_string (w : World) (s : ByteArray) : Src Try.prog 1 9 (.string s) (bytesL s).length (bcells (bytesL s)) w := by
  have e : bcells (bytesL s) = byteCells s := by simp [bcells, bytesL, byteCells]
  rw [bytesL_len, e]
  exact Src.ofString w Try.underlying9 s
theorem feed_full (b : Nat) (P : Ph) (L : Lg) (s : ByteArray) (w : World) (h : Bus w b P L) (hs : s.size ≤ maxLen) (hf : 65536 < s.size + L.I.length) : Calls Try.prog 19 #[.pointer (some ⟨b, 0, none⟩), .string s] w fun e w' => e = .returned (.int .i64 40) ∧ w' = w := by
  have c3 := h.nine.c3
  have hl := h.il
  have h1 : (65536 : Int) - (L.I.length : Int) < (s.size : Int) := by omega
  unfold maxLen at hs
  clear h
  go_enter Try.func19, Try.ntmps19
  go_wp2
  go_ret
  exact ⟨rfl, rfl⟩
theorem in_end {w w1 : World} {b : Nat} {P : Ph} {L : Lg} (h : Bus w b P L) {I' : List Int} {a' : Option Addr} {c' : Nat} (ht : Tou (inB P.ia) w w1) (hS : SRow w1 a' c' I') (hl : I'.length ≤ 65536) (ha : ∀ y, inB a' y → inB P.ia y ∨ w.heap.size ≤ y) (hlt : ∀ y, inB a' y → y < w1.heap.size) : Stp w b P (w1.setCell ⟨b, 3, none⟩ (.slice a' I'.length c')) { P with ia := a', ic := c' } { L with I := I' } := by
  obtain ⟨t, hg⟩ := h.tag
  have old : ∀ y, P.all b y → t y ≠ 4 → w1.heap[y]? = w.heap[y]? := fun y hy h4 => ht.block y (h.lt y hy) fun e => h4 (hg.ia y e)
  have hal : ∀ y, Ph.all { P with ia := a', ic := c' } b y → P.all b y ∨ w.heap.size ≤ y := by
    rintro y (e | e | e | e | e | e)
    · exact .inl (.inl e)
    · exact .inl (.inr (.inl e))
    · exact .inl (.inr (.inr (.inl e)))
    · exact .inl (.inr (.inr (.inr (.inl e))))
    · exact (ha y e).imp (fun e => .inr (.inr (.inr (.inr (.inl e))))) id
    · exact .inl (.inr (.inr (.inr (.inr (.inr e)))))
  have t4 : ∀ y, t y = 0 ∨ t y = 1 ∨ t y = 2 ∨ t y = 3 ∨ t y = 5 ∨ t y = 6 → t y ≠ 4 := fun y => by omega
  have hb := old b (.inl rfl) (t4 _ (.inl hg.b))
  have hc : Core w1 b { P with ia := a', ic := c' } { L with I := I' } := {
    mem := h.mem.same (old _ (.inr (.inl rfl)) (t4 _ (.inr (.inl hg.mb))))
    byte := h.byte
    dsk := h.dsk.keep ht.size fun x hx => old x (.inr (.inr (.inr (.inr (.inr (.inr hx)))))) (t4 _ (.inr (.inr (.inr (.inr (.inr (hg.D x hx)))))))
    dn := h.dn
    dS := h.dS
    dm := h.dm
    dev := (rowAt_same (old _ (.inr (.inr (.inl rfl))) (t4 _ (.inr (.inr (.inl hg.vb)))))).trans h.dev
    cap := (rowAt_same (old _ (.inr (.inr (.inr (.inl rfl)))) (t4 _ (.inr (.inr (.inr (.inl hg.cb))))))).trans h.cap
    inp := hS
    out := h.out.same fun x hx => old x (.inr (.inr (.inr (.inr (.inr (.inl hx)))))) (t4 _ (.inr (.inr (.inr (.inr (.inl (hg.oa x hx)))))))
    il := hl
    ol := h.ol
    tk := h.tk
    sc := h.sc
    ad := h.ad
    cm := h.cm
    tag := ⟨fun y => if y < w.heap.size then t y else 4, {
      b := (if_pos h.blt).trans hg.b
      mb := (if_pos (h.lt _ (.inr (.inl rfl)))).trans hg.mb
      vb := (if_pos (h.lt _ (.inr (.inr (.inl rfl))))).trans hg.vb
      cb := (if_pos (h.lt _ (.inr (.inr (.inr (.inl rfl)))))).trans hg.cb
      ia := fun y hy => by
        rcases ha y hy with e | e
        · exact (if_pos (h.lt y (.inr (.inr (.inr (.inr (.inl e))))))).trans (hg.ia y e)
        · exact if_neg (by omega)
      oa := fun y hy => (if_pos (h.lt y (.inr (.inr (.inr (.inr (.inr (.inl hy)))))))).trans (hg.oa y hy)
      D := fun y hy => (if_pos (h.lt y (.inr (.inr (.inr (.inr (.inr (.inr hy)))))))).trans (hg.D y hy) }⟩
    lt := fun y hy => by
      rcases hy with e | e | e | e | e | e
      · exact Nat.lt_of_lt_of_le (h.lt y (.inl e)) ht.size
      · exact Nat.lt_of_lt_of_le (h.lt y (.inr (.inl e))) ht.size
      · exact Nat.lt_of_lt_of_le (h.lt y (.inr (.inr (.inl e)))) ht.size
      · exact Nat.lt_of_lt_of_le (h.lt y (.inr (.inr (.inr (.inl e))))) ht.size
      · exact hlt y e
      · exact Nat.lt_of_lt_of_le (h.lt y (.inr (.inr (.inr (.inr (.inr e)))))) ht.size }
  have hT : Tou (P.all b) w w1 := ⟨ht.os, ht.tape, ht.output, ht.size, fun k hk hm => ht.block k hk fun e => hm (.inr (.inr (.inr (.inr (.inl e)))))⟩
  exact ⟨hc.put ((rowAt_same hb).trans h.blk) ((roomAt_same hb).trans h.room) 3 _ rfl, hT.set ⟨b, 3, none⟩ (.inl rfl) _, hal, rfl⟩
theorem feed_ok (b : Nat) (P : Ph) (L : Lg) (s : ByteArray) (w : World) (h : Bus w b P L) (hf : s.size + L.I.length ≤ 65536) : Calls Try.prog 19 #[.pointer (some ⟨b, 0, none⟩), .string s] w fun e w' => e = .returned (.int .i64 0) ∧ ∃ P', Stp w b P w' P' { L with I := L.I ++ bytesL s } := by
  obtain ⟨a', c', w1, hr, hS, ht, ha, hlt⟩ := srow_append h.inp 9 35 (.string s) (bytesL s) (src_string w s) (bytesL_byte s) (by rw [bytesL_len]; omega)
  rw [bytesL_len] at hr
  have hl := h.il
  have h1 : ¬ ((65536 : Int) - (L.I.length : Int) < (s.size : Int)) := by omega
  have c3 := h.nine.c3
  obtain ⟨t, hg⟩ := h.tag
  have hbb : w1.heap[b]? = w.heap[b]? := ht.block b h.blt hg.ne.2.2.2.2.2.1
  have c3' : w1.cell? ⟨b, 3, none⟩ = some (.slice P.ia L.I.length P.ic) := (World.cell?_of_block hbb).trans c3
  have f3 : w1.frozen? ⟨b, 3, none⟩ = false := (World.frozen?_of_block hbb).trans (h.free (j := 3) (by omega))
  have HE : Hid (Stp w b P (w1.setCell ⟨b, 3, none⟩ (.slice a' (L.I.length + s.size) c')) { P with ia := a', ic := c' } { L with I := L.I ++ bytesL s }) := by
    have := in_end h ht hS (by rw [List.length_append, bytesL_len]; omega) ha hlt
    rw [List.length_append, bytesL_len] at this
    exact this
  have HR : Hid _ := hr
  clear h hS ht ha hlt hg hbb hr
  go_enter Try.func19, Try.ntmps19
  go_wp2_with (at_builtin; refine wpList_append_eq rfl _ _ _ _ rfl _ _ _ _ rfl rfl HR.out ?_)
  go_ret
  exact ⟨rfl, _, HE.out⟩
theorem out_end {w w1 : World} {b : Nat} {P : Ph} {L : Lg} (h : Bus w b P L) {O' : List Int} {a' : Option Addr} {c' : Nat} (ht : Tou (inB P.oa) w w1) (hS : SRow w1 a' c' O') (hl : O'.length ≤ 65536) (ha : ∀ y, inB a' y → inB P.oa y ∨ w.heap.size ≤ y) (hlt : ∀ y, inB a' y → y < w1.heap.size) : Stp w b P (w1.setCell ⟨b, 4, none⟩ (.slice a' O'.length c')) { P with oa := a', oc := c' } { L with O := O' } := by
  obtain ⟨t, hg⟩ := h.tag
  have old : ∀ y, P.all b y → t y ≠ 5 → w1.heap[y]? = w.heap[y]? := fun y hy h4 => ht.block y (h.lt y hy) fun e => h4 (hg.oa y e)
  have hal : ∀ y, Ph.all { P with oa := a', oc := c' } b y → P.all b y ∨ w.heap.size ≤ y := by
    rintro y (e | e | e | e | e | e | e)
    · exact .inl (.inl e)
    · exact .inl (.inr (.inl e))
    · exact .inl (.inr (.inr (.inl e)))
    · exact .inl (.inr (.inr (.inr (.inl e))))
    · exact .inl (.inr (.inr (.inr (.inr (.inl e)))))
    · exact (ha y e).imp (fun e => .inr (.inr (.inr (.inr (.inr (.inl e)))))) id
    · exact .inl (.inr (.inr (.inr (.inr (.inr (.inr e))))))
  have t4 : ∀ y, t y = 0 ∨ t y = 1 ∨ t y = 2 ∨ t y = 3 ∨ t y = 4 ∨ t y = 6 → t y ≠ 5 := fun y => by omega
  have hb := old b (.inl rfl) (t4 _ (.inl hg.b))
  have hc : Core w1 b { P with oa := a', oc := c' } { L with O := O' } := {
    mem := h.mem.same (old _ (.inr (.inl rfl)) (t4 _ (.inr (.inl hg.mb))))
    byte := h.byte
    dsk := h.dsk.keep ht.size fun x hx => old x (.inr (.inr (.inr (.inr (.inr (.inr hx)))))) (t4 _ (.inr (.inr (.inr (.inr (.inr (hg.D x hx)))))))
    dn := h.dn
    dS := h.dS
    dm := h.dm
    dev := (rowAt_same (old _ (.inr (.inr (.inl rfl))) (t4 _ (.inr (.inr (.inl hg.vb)))))).trans h.dev
    cap := (rowAt_same (old _ (.inr (.inr (.inr (.inl rfl)))) (t4 _ (.inr (.inr (.inr (.inl hg.cb))))))).trans h.cap
    inp := h.inp.same fun x hx => old x (.inr (.inr (.inr (.inr (.inl hx))))) (t4 _ (.inr (.inr (.inr (.inr (.inl (hg.ia x hx)))))))
    out := hS
    il := h.il
    ol := hl
    tk := h.tk
    sc := h.sc
    ad := h.ad
    cm := h.cm
    tag := ⟨fun y => if y < w.heap.size then t y else 5, {
      b := (if_pos h.blt).trans hg.b
      mb := (if_pos (h.lt _ (.inr (.inl rfl)))).trans hg.mb
      vb := (if_pos (h.lt _ (.inr (.inr (.inl rfl))))).trans hg.vb
      cb := (if_pos (h.lt _ (.inr (.inr (.inr (.inl rfl)))))).trans hg.cb
      ia := fun y hy => (if_pos (h.lt y (.inr (.inr (.inr (.inr (.inl hy))))))).trans (hg.ia y hy)
      oa := fun y hy => by
        rcases ha y hy with e | e
        · exact (if_pos (h.lt y (.inr (.inr (.inr (.inr (.inr (.inl e)))))))).trans (hg.oa y e)
        · exact if_neg (by omega)
      D := fun y hy => (if_pos (h.lt y (.inr (.inr (.inr (.inr (.inr (.inr hy)))))))).trans (hg.D y hy) }⟩
    lt := fun y hy => by
      rcases hy with e | e | e | e | e | e | e
      · exact Nat.lt_of_lt_of_le (h.lt y (.inl e)) ht.size
      · exact Nat.lt_of_lt_of_le (h.lt y (.inr (.inl e))) ht.size
      · exact Nat.lt_of_lt_of_le (h.lt y (.inr (.inr (.inl e)))) ht.size
      · exact Nat.lt_of_lt_of_le (h.lt y (.inr (.inr (.inr (.inl e))))) ht.size
      · exact Nat.lt_of_lt_of_le (h.lt y (.inr (.inr (.inr (.inr (.inl e)))))) ht.size
      · exact hlt y e
      · exact Nat.lt_of_lt_of_le (h.lt y (.inr (.inr (.inr (.inr (.inr (.inr e))))))) ht.size }
  have hT : Tou (P.all b) w w1 := ⟨ht.os, ht.tape, ht.output, ht.size, fun k hk hm => ht.block k hk fun e => hm (.inr (.inr (.inr (.inr (.inr (.inl e))))))⟩
  exact ⟨hc.put ((rowAt_same hb).trans h.blk) ((roomAt_same hb).trans h.room) 4 _ rfl, hT.set ⟨b, 4, none⟩ (.inl rfl) _, hal, rfl⟩
theorem src_byte (w : World) (x : Int) (t : TypeId) (k : Nat) (hk : k = w.heap.size) : Src Try.prog 1 35 (.slice (some ⟨k, 0, none⟩) 1 1) [x].length (bcells [x]) (w.alloc (.cells #[.int .u8 x] t)) := by
  subst hk
  refine Src.ofSlice _ Try.underlying35 _ 1 1 _ rfl (fun j u hj => ?_) (bcells_one _)
  have hl := (List.getElem?_eq_some_iff.1 hj).1
  simp [bcells] at hl
  subst hl
  simp [bcells] at hj
  subst hj
  rw [add_lit0]; simp
theorem putOut_full (b : Nat) (P : Ph) (L : Lg) (v : Int) (w : World) (h : Bus w b P L) (hf : 65536 ≤ L.O.length) : Calls Try.prog 58 #[.pointer (some ⟨b, 0, none⟩), .int .u32 v] w fun e w' => e = .returned (.tuple #[]) ∧ w' = w := by
  have c4 := h.nine.c4
  have h1 : ¬ ((L.O.length : Int) < 65536) := by omega
  clear h
  go_enter Try.func58, Try.ntmps58
  go_wp2
  go_end0
  exact ⟨rfl, rfl⟩
theorem putOut_ok (b : Nat) (P : Ph) (L : Lg) (v : Int) (w : World) (h : Bus w b P L) (hf : L.O.length < 65536) : Calls Try.prog 58 #[.pointer (some ⟨b, 0, none⟩), .int .u32 v] w fun e w' => e = .returned (.tuple #[]) ∧ ∃ P', Stp w b P w' P' { L with O := L.O ++ [v % 256] } := by
  have hb0 : Below w.heap.size w (w.alloc (.cells #[.int .u8 (v % 256)] 5)) := (Below.refl _ w).alloc (Nat.le_refl _) _
  have h' := h.below hb0
  obtain ⟨a', c', w1, hr, hS, ht, ha, hlt⟩ := srow_append h'.out 35 35 _ [v % 256] (src_byte w (v % 256) 5 _ rfl) (by intro y hy; simp at hy; subst hy; omega) (by simp; omega)
  have h1 : (L.O.length : Int) < 65536 := by omega
  have c4 := h.nine.c4
  obtain ⟨t, hg⟩ := h'.tag
  have hbb : w1.heap[b]? = (w.alloc (.cells #[.int .u8 (v % 256)] 5)).heap[b]? := ht.block b h'.blt hg.ne.2.2.2.2.2.2.1
  have c4' : w1.cell? ⟨b, 4, none⟩ = some (.slice P.oa L.O.length P.oc) := (World.cell?_of_block hbb).trans h'.nine.c4
  have f4 : w1.frozen? ⟨b, 4, none⟩ = false := (World.frozen?_of_block hbb).trans (h'.free (j := 4) (by omega))
  have HE : Hid (Stp w b P (w1.setCell ⟨b, 4, none⟩ (.slice a' (L.O.length + 1) c')) { P with oa := a', oc := c' } { L with O := L.O ++ [v % 256] }) := by
    have e := out_end h' ht hS (by simp; omega) ha hlt
    rw [List.length_append] at e
    exact (Stp.below h hb0).trans e
  have HR : Hid _ := hr
  clear h h' hS ht ha hlt hg hbb hr hb0
  go_enter Try.func58, Try.ntmps58
  go_wp2_with (at_builtin; refine wpList_append_eq rfl _ _ _ _ rfl _ _ _ _ rfl rfl HR.out ?_)
  go_end0
  exact ⟨rfl, _, HE.out⟩
end Go.Proofs.Ytbkkjnafnckleaa
