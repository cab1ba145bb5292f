/-
  The disk's commands.
  A command is done, or not.
-/
import Derived.Test.YteegkhnikcioiaaGreatDoorMLine
import Derived.Deep.RegionHeld
import Derived.Deep.RegionWith
namespace Go.Proofs.YteegkhnikcioiaaGreatDoor
open Go.ChangeShapes Go.WideShapes Go.ChangeAt Go.RowKit
attribute [local go_sem ↓] loadSec_seal storeSec_seal eqlSec_seal zeroSec
attribute [local go_sem] loadSec_run storeSec_run rowAt_at rowAt_old rowAt_drew rowAt_drewN roomSec_new roomAt_old roomAt_drew roomAt_drewN putSec_new putRow_past rowSec_put size_put putRow_drew putRow_drewN alloc_drewN setCell_drewN sec_size

set_option linter.unusedVariables false

def layM (M : Nat → Int) (o : Nat) (f : Nat → Int) (i : Nat) : Int := if o ≤ i ∧ i < o + 1024 then f (i - o) else M i
theorem copy_into {w : World} {g n : Nat} {M : Nat → Int} (h : BRow w g n M) (o dc s so sc : Nat) (f : Nat → Int) (ho : o + 1024 ≤ n) (hc : ∀ i, i < 1024 → w.cell? ⟨s, so + i, none⟩ = some (.int .u8 (f i))) :
    ∃ w', (Builtin.copy_ #[49, 49] 3 #[.slice (some ⟨g, o, none⟩) 1024 dc, .slice (some ⟨s, so, none⟩) 1024 sc]).run Tryz.prog w = .ok (.int .i64 1024) w' ∧ BRow w' g n (layM M o f) ∧ Tou (fun x => x = g) w w' := by
  obtain ⟨cur, hg, hs, hcur⟩ := h.row
  have hl : (rowOf f 1024).length = 1024 := rowOf_len f 1024
  have e := run_copy_row (P := Tryz.prog) w 49 49 3 5 g o 1024 dc ⟨s, so, none⟩ 1024 sc cur 5 (rowOf f 1024) Tryz.underlying49 size5 hg (by rw [hl]; rfl)
    (fun j v hj => by
      have hjl : j < 1024 := by have := (List.getElem?_eq_some_iff.1 hj).1; rwa [hl] at this
      rw [Addr.add_mid, hc j hjl, ← hj, rowOf_at f hjl]) (by rw [hl, hs]; exact ho) (row_one f 1024)
  rw [hl] at e
  refine ⟨_, e, ⟨_, setRow_heap w g cur _ 5 (0, 0) hg, ?_, fun i hi => ?_⟩, ⟨rfl, rfl, rfl, by simp, fun k hk hm => setRow_other w g k _ hm⟩⟩
  · simp only [List.size_toArray, List.length_append, List.length_take, List.length_drop, hl, Array.length_toList]; omega
  · have hcl : cur.toList.length = n := by rw [Array.length_toList]; exact hs
    simp only [List.getElem?_toArray]
    unfold layM
    by_cases h1 : i < o
    · rw [if_neg (by omega), List.append_assoc, List.getElem?_append_left (by rw [List.length_take]; omega), List.getElem?_take, if_pos h1]
      have := hcur i hi
      simpa using this
    · by_cases h2 : i < o + 1024
      · rw [if_pos (by omega), List.append_assoc, List.getElem?_append_right (by rw [List.length_take]; omega), List.length_take, show min o cur.toList.length = o by omega, List.getElem?_append_left (by rw [hl]; omega)]
        exact rowOf_at f (by omega)
      · rw [if_neg (by omega), List.getElem?_append_right (by rw [List.length_append, List.length_take, hl]; omega), List.length_append, List.length_take, hl, show min o cur.toList.length = o by omega, List.getElem?_drop, show o + 1024 + (i - (o + 1024)) = i by omega]
        have := hcur i hi
        simpa using this
theorem lay_byte {M : Nat → Int} {n o : Nat} {f : Nat → Int} (h : ∀ i, i < n → 0 ≤ M i ∧ M i ≤ 255) (hf : ByteF f) : ∀ i, i < n → 0 ≤ layM M o f i ∧ layM M o f i ≤ 255 := fun i hi => by
  unfold layM; split
  · exact hf _ (by omega)
  · exact h i hi
theorem neq40 (x y : Int) (w : World) : (binOp .neq 29 (.int .i64 x) (.int .i64 y)).run Tryz.prog w = .ok (.bool (x != y)) w := by simp [go_sem]
theorem Bus.dskX {w : World} {b : Nat} {P : Ph} {L : Lg} (h : Bus w b P L) (X : World) (hX : X.heap = w.heap) : Rep X P.db P.D := h.dsk.keep (by rw [hX]; exact Nat.le_refl _) (fun x _ => by rw [hX])
theorem drewB {w w1 : World} (hb : Below w.drew.heap.size w.drew w1) : Below w.heap.size w w1 := ((Below.refl _ w).drew).trans hb
theorem wrapI {x : Int} (h0 : 0 ≤ x) (h1 : x ≤ 4294967295) : IntKind.i64.wrap x = x := by rw [IntWalk.i64_left, IntWalk.wrap64_in]; omega
theorem readInto_bad (b : Nat) (P : Ph) (L : Lg) (v : Value) (w : World) (h : Bus w b P L) (hs : (L.n : Int) ≤ L.sc) : Calls Tryz.prog 140 #[.pointer (some ⟨b, 0, none⟩), v] w fun e w' => e = .returned (.bool false) ∧ Stp w b P w' P L := by
  have c1 := h.nine.c1
  have c6 := h.nine.c6
  have H : Hid (Bus w b P L) := h
  have s0 := h.sc.1
  have s1 := h.sc.2
  have hp : placeE L.sc P.D.n = 31 := by unfold placeE; rw [h.dn, if_pos (.inr hs)]
  have hwr := wrapI s0 s1
  clear h
  go_enter Tryz.func140, Tryz.ntmps140
  go_wp2
  go_region_with (go_at_call 154; refine (read_bad P.db P.D _ _ (H.out.dskX w.drew rfl) hp).mono ?_; rintro e w1 ⟨rfl, hb⟩)
  all_goals
    go_wp2
    go_ret
    exact ⟨rfl, Stp.below H.out (drewB hb)⟩
theorem readInto_ok (b : Nat) (P : Ph) (L : Lg) (s o cap : Nat) (w : World) (h : Bus w b P L) (hs : L.sc = s) (hn : s < L.n) (ho : o + 1024 ≤ 1048576) : Calls Tryz.prog 140 #[.pointer (some ⟨b, 0, none⟩), .slice (some ⟨P.mb, o, none⟩) 1024 cap] w fun e w' => e = .returned (.bool true) ∧ Stp w b P w' P { L with M := layM L.M o (L.S s) } := by
  have c1 := h.nine.c1
  have c6 := h.nine.c6
  have H : Hid (Bus w b P L) := h
  have s1 := h.sc.2
  rw [hs] at c6 s1
  have HN : Hid (s < P.D.n) := by show s < P.D.n; rw [h.dn]; exact hn
  have hwr : IntKind.i64.wrap (s : Int) = s := wrapI (by omega) s1
  clear h hs
  go_enter Tryz.func140, Tryz.ntmps140
  go_wp2
  go_region_with (go_at_call 154; refine (read_good P.db P.D s _ (H.out.dskX w.drew rfl) HN.out).mono ?_; rintro e w1 ⟨g, rfl, hg, hrow, hroom, hlt, hb⟩)
  all_goals
    have h1 := H.out.below (drewB hb)
    obtain ⟨w2, hr, hm, ht⟩ := copy_into h1.mem o cap g 0 1024 (P.D.S s) ho (fun i hi => by rw [Nat.zero_add, rowAt_cell hrow, sec_at _ hi])
    have HE : Hid (Stp w b P w2 P { L with M := layM L.M o (L.S s) }) := (Stp.below H.out (drewB hb)).trans (by
      have e := Stp.mem h1 ht hm (lay_byte h1.byte (h1.dsk.secS s HN.out).2)
      rw [H.out.dS] at e
      exact e)
    clear h1 hm ht hrow hroom
    go_wp2
    go_ret
    exact ⟨rfl, HE.out⟩
theorem disk_end {w w1 : World} {b : Nat} {P : Ph} {L : Lg} (h : Bus w b P L) {E : Dk} {S' : Nat → Nat → Int} {m' : Nat} (hE : Rep w1 P.db E) (en : E.n = L.n) (eS : E.S = S') (em : E.m = m') (ht : Tou (P.D.mut P.db) w w1) (hx : ∀ x, E.mut P.db x ∨ E.fix x → (P.D.mut P.db x ∨ P.D.fix x) ∨ w.heap.size ≤ x) : Stp w b P w1 { P with D := E } { L with S := S', m := m' } := by
  obtain ⟨t, hg⟩ := h.tag
  have old : ∀ y, P.all b y → t y ≠ 6 → w1.heap[y]? = w.heap[y]? := fun y hy h4 => ht.block y (h.lt y hy) fun e => h4 (hg.D y (.inl e))
  have hal : ∀ y, Ph.all { P with D := E } b y → P.all b y ∨ w.heap.size ≤ y := by
    rintro y (e | e | e | e | e | e | e)
    · exact .inl (.inl e)
    · exact .inl (.inr (.inl e))
    · exact .inl (.inr (.inr (.inl e)))
    · exact .inl (.inr (.inr (.inr (.inl e))))
    · exact .inl (.inr (.inr (.inr (.inr (.inl e)))))
    · exact .inl (.inr (.inr (.inr (.inr (.inr (.inl e))))))
    · exact (hx y e).imp (fun e => .inr (.inr (.inr (.inr (.inr (.inr e)))))) id
  have t4 : ∀ y, t y = 0 ∨ t y = 1 ∨ t y = 2 ∨ t y = 3 ∨ t y = 4 ∨ t y = 5 → t y ≠ 6 := fun y => by omega
  have hb := old b (.inl rfl) (t4 _ (.inl hg.b))
  refine ⟨{
    mem := h.mem.same (old _ (.inr (.inl rfl)) (t4 _ (.inr (.inl hg.mb))))
    byte := h.byte
    dsk := hE
    dn := en
    dS := eS
    dm := em
    dev := (rowAt_same (old _ (.inr (.inr (.inl rfl))) (t4 _ (.inr (.inr (.inl hg.vb)))))).trans h.dev
    cap := (rowAt_same (old _ (.inr (.inr (.inr (.inl rfl)))) (t4 _ (.inr (.inr (.inr (.inl hg.cb))))))).trans h.cap
    inp := h.inp.same fun x hx => old x (.inr (.inr (.inr (.inr (.inl hx))))) (t4 _ (.inr (.inr (.inr (.inr (.inl (hg.ia x hx)))))))
    out := h.out.same fun x hx => old x (.inr (.inr (.inr (.inr (.inr (.inl hx)))))) (t4 _ (.inr (.inr (.inr (.inr (.inr (hg.oa x hx)))))))
    il := h.il
    ol := h.ol
    tk := h.tk
    sc := h.sc
    ad := h.ad
    cm := h.cm
    tag := ⟨fun y => if y < w.heap.size then t y else 6, {
      b := (if_pos h.blt).trans hg.b
      mb := (if_pos (h.lt _ (.inr (.inl rfl)))).trans hg.mb
      vb := (if_pos (h.lt _ (.inr (.inr (.inl rfl))))).trans hg.vb
      cb := (if_pos (h.lt _ (.inr (.inr (.inr (.inl rfl)))))).trans hg.cb
      ia := fun y hy => (if_pos (h.lt y (.inr (.inr (.inr (.inr (.inl hy))))))).trans (hg.ia y hy)
      oa := fun y hy => (if_pos (h.lt y (.inr (.inr (.inr (.inr (.inr (.inl hy)))))))).trans (hg.oa y hy)
      D := fun y hy => by
        rcases hx y hy with e | e
        · exact (if_pos (h.lt y (.inr (.inr (.inr (.inr (.inr (.inr e)))))))).trans (hg.D y e)
        · exact if_neg (by omega) }⟩
    lt := fun y hy => by
      rcases hy with e | e | e | e | e | e | e
      · exact Nat.lt_of_lt_of_le (h.lt y (.inl e)) ht.size
      · exact Nat.lt_of_lt_of_le (h.lt y (.inr (.inl e))) ht.size
      · exact Nat.lt_of_lt_of_le (h.lt y (.inr (.inr (.inl e)))) ht.size
      · exact Nat.lt_of_lt_of_le (h.lt y (.inr (.inr (.inr (.inl e))))) ht.size
      · exact Nat.lt_of_lt_of_le (h.lt y (.inr (.inr (.inr (.inr (.inl e)))))) ht.size
      · exact Nat.lt_of_lt_of_le (h.lt y (.inr (.inr (.inr (.inr (.inr (.inl e))))))) ht.size
      · exact hE.lt y e
    blk := (rowAt_same hb).trans h.blk
    room := (roomAt_same hb).trans h.room }, ⟨ht.os, ht.tape, ht.output, ht.size, fun k hk hm => ht.block k hk fun e => hm (.inr (.inr (.inr (.inr (.inr (.inr (.inl e)))))))⟩, hal, rfl⟩
theorem lay0 (M f : Nat → Int) : ∀ i, i < 1024 → layM M 0 f i = f i := fun i hi => by
  unfold layM; rw [if_pos (by omega), Nat.sub_zero]
def memF (M : Nat → Int) (o i : Nat) : Int := M (o + i)
theorem mem_src {w : World} {b : Nat} {P : Ph} {L : Lg} (h : Bus w b P L) {o : Nat} (ho : o + 1024 ≤ 1048576) : ∀ i, i < 1024 → w.cell? ⟨P.mb, o + i, none⟩ = some (.int .u8 (memF L.M o i)) := fun i hi => (h.mem.at (k := o + i) (by omega)).1
theorem mem_byte {w : World} {b : Nat} {P : Ph} {L : Lg} (h : Bus w b P L) {o : Nat} (ho : o + 1024 ≤ 1048576) : ∀ i, i < 1024 → 0 ≤ memF L.M o i ∧ memF L.M o i ≤ 255 := fun i hi => h.byte (o + i) (by omega)
/-- The bytes that are handed to the disk, in a row of their own. -/
theorem made_copy {w w2 : World} {b : Nat} {P : Ph} {L : Lg} (h : Bus w b P L) {o cap : Nat} (ho : o + 1024 ≤ 1048576) (hown : w2.ownsRow w.heap.size 5 1 (.slice (some ⟨w.heap.size, 0, none⟩) 1024 1024) 1024 (madeCells (Value.int .u8 0).cells (1024 * 1)).toList) (hgrow : w.grownBy w2 none) :
    ∃ w3, (Builtin.copy_ #[49, 49] 3 #[.slice (some ⟨w.heap.size, 0, none⟩) 1024 1024, .slice (some ⟨P.mb, o, none⟩) 1024 cap]).run Tryz.prog w2 = .ok (.int .i64 1024) w3 ∧ RdB w3 (some ⟨w.heap.size, 0, none⟩) 1024 (memF L.M o) ∧ Below w.heap.size w w3 := by
  have hb : Below w.heap.size w w2 := (Below.refl _ w).grown hgrow (Nat.le_refl _) (fun k hk => by cases hk)
  have h2 := h.below hb
  obtain ⟨w3, hr, hm, ht⟩ := copy_into (BRow.made hown) 0 1024 P.mb o cap (memF L.M o) (by omega) (mem_src h2 ho)
  exact ⟨w3, hr, (hm.ext (lay0 _ _)).rd (by decide) (mem_byte h ho), hb.trans (ht.below hb.size fun x hx => by omega)⟩
theorem eq40 (x y : Int) (w : World) : (binOp .eql 29 (.int .i64 x) (.int .i64 y)).run Tryz.prog w = .ok (.bool (x == y)) w := by simp [go_sem]
theorem writeFrom_bad (b : Nat) (P : Ph) (L : Lg) (o cap : Nat) (w : World) (h : Bus w b P L) (ho : o + 1024 ≤ 1048576) (hs : (L.n : Int) ≤ L.sc ∨ 4096 ≤ L.m) : Calls Tryz.prog 141 #[.pointer (some ⟨b, 0, none⟩), .slice (some ⟨P.mb, o, none⟩) 1024 cap] w fun e w' => e = .returned (.bool false) ∧ Stp w b P w' P L := by
  obtain ⟨i0, hi, hz0, hz1, hz2⟩ := info_parts info5
  have H : Hid (Bus w b P L) := h
  have s0 := h.sc.1
  have s1 := h.sc.2
  have HE : Hid (¬ firstE L.sc P.D.n 1024 P.D.m = 0) := by
    show ¬ firstE L.sc P.D.n 1024 P.D.m = 0
    unfold firstE placeE dataE wearE
    rw [h.dn, h.dm]
    rcases hs with e | e
    · rw [if_pos (c := L.sc < 0 ∨ _) (.inr e), if_neg (by omega)]; omega
    · by_cases e2 : L.sc < 0 ∨ (L.n : Int) ≤ L.sc
      · rw [if_pos e2, if_neg (by omega)]; omega
      · rw [if_neg e2, if_pos rfl, if_pos (by rfl), if_pos (by omega)]; omega
  have hE0 : (firstE L.sc P.D.n 1024 P.D.m == 0) = false := by simpa using HE.out
  have hwr := wrapI s0 s1
  clear h hs
  go_enter Tryz.func141, Tryz.ntmps141
  go_wp2_with (at_make; refine wpList_make_full _ rfl _ _ 49 rfl w.heap.size 5 i0 (.int .u8 0) 1 Tryz.underlying49 hi hz0 hz1 .i64 .i64 _ _ 1024 rfl rfl rfl rfl (by rw [hz2]; decide) (by decide) (Nat.le_refl _) ?_; intro w2 hown2 hgrow2; obtain ⟨w3, hr, hm, hb⟩ := made_copy (cap := cap) H.out ho hown2 hgrow2; have c1 := (H.out.below hb).nine.c1; have c6 := (H.out.below hb).nine.c6; have HB : Hid _ := hb; clear hown2 hgrow2 hm hb)
  go_region_with (go_at_call 155; refine (write_bad P.db P.D _ _ 1024 _ _ ((H.out.below HB.out).dskX w3.drew rfl) HE.out).mono ?_; rintro e w4 ⟨rfl, hb4⟩)
  all_goals
    go_wp2
    go_ret
    exact ⟨rfl, Stp.below H.out (HB.out.trans ((drewB hb4).mono HB.out.size))⟩
theorem writeFrom_ok (b : Nat) (P : Ph) (L : Lg) (s o cap : Nat) (w : World) (h : Bus w b P L) (ho : o + 1024 ≤ 1048576) (hs : L.sc = s) (hn : s < L.n) (hm : L.m < 4096) : Calls Tryz.prog 141 #[.pointer (some ⟨b, 0, none⟩), .slice (some ⟨P.mb, o, none⟩) 1024 cap] w fun e w' => e = .returned (.bool true) ∧ ∃ P', Stp w b P w' P' { L with S := upd L.S s (memF L.M o), m := L.m + 1 } := by
  obtain ⟨i0, hi, hz0, hz1, hz2⟩ := info_parts info5
  have H : Hid (Bus w b P L) := h
  have s1 := h.sc.2
  rw [hs] at s1
  have HN : Hid (s < P.D.n ∧ P.D.m < 4096) := by show s < P.D.n ∧ P.D.m < 4096; rw [h.dn, h.dm]; exact ⟨hn, hm⟩
  have hwr : IntKind.i64.wrap (s : Int) = s := wrapI (by omega) s1
  have HS : Hid (L.sc = s) := hs
  clear h hs
  go_enter Tryz.func141, Tryz.ntmps141
  go_wp2_with (at_make; refine wpList_make_full _ rfl _ _ 49 rfl w.heap.size 5 i0 (.int .u8 0) 1 Tryz.underlying49 hi hz0 hz1 .i64 .i64 _ _ 1024 rfl rfl rfl rfl (by rw [hz2]; decide) (by decide) (Nat.le_refl _) ?_; intro w2 hown2 hgrow2; obtain ⟨w3, hr, hm, hb⟩ := made_copy (cap := cap) H.out ho hown2 hgrow2; have c1 := (H.out.below hb).nine.c1; have c6 := (H.out.below hb).nine.c6; rw [HS.out] at c6; have HB : Hid _ := hb; have HM : Hid (RdB w3.drew (some ⟨w.heap.size, 0, none⟩) 1024 (memF L.M o)) := RdB.below hm ((Below.refl _ w3).drew); clear hown2 hgrow2 hm hb)
  go_region_with (go_at_call 155; refine (write_good P.db P.D s _ _ (memF L.M o) _ ((H.out.below HB.out).dskX w3.drew rfl) HN.out.1 HN.out.2 HM.out).mono ?_; rintro e w4 ⟨Pn, g, c, rfl, hR, ht, hmu, hfx⟩)
  all_goals
    have HE : Hid (∃ P', Stp w b P w4 P' { L with S := upd L.S s (memF L.M o), m := L.m + 1 }) := by
      have hb3 : Below w.heap.size w w3.drew := HB.out.drew
      have h3 := H.out.below hb3
      have e := disk_end (S' := upd L.S s (memF L.M o)) (m' := L.m + 1) h3 hR (by show P.D.n = L.n; exact h3.dn) (by show upd P.D.S s (memF L.M o) = _; rw [h3.dS]) (by show P.D.m + 1 = _; rw [h3.dm]) ht (fun x hx => by
        rcases hx with hx | hx
        · exact (hmu x hx).imp .inl id
        · exact (hfx x hx).imp .inr id)
      exact ⟨_, (Stp.below H.out hb3).trans e⟩
    clear hR ht hmu hfx
    go_wp2
    go_ret
    exact ⟨rfl, HE.out⟩
end Go.Proofs.YteegkhnikcioiaaGreatDoor

namespace Go.Proofs.YteegkhnikcioiaaGreatDoor
open Go.ChangeShapes Go.WideShapes Go.ChangeAt Go.RowKit
attribute [local go_sem ↓] loadSec_seal storeSec_seal eqlSec_seal zeroSec
attribute [local go_sem] loadSec_run storeSec_run rowAt_at rowAt_old rowAt_drew rowAt_drewN roomSec_new roomAt_old roomAt_drew roomAt_drewN putSec_new putRow_past rowSec_put size_put putRow_drew putRow_drewN alloc_drewN setCell_drewN sec_size

set_option linter.unusedVariables false

/-- May the address be a command's? -/
def placeB (L : Lg) : Bool := decide (L.ad % 4 = 0 ∧ L.ad ≤ 1047552)
/-- What a command does: was it done, and what is held behind it. -/
def Lg.moved (L : Lg) (c : Int) : Bool × Lg :=
  if placeB L = false then (false, L)
  else if c = 1 then (if L.sc < L.n then (true, { L with M := layM L.M L.ad.toNat (L.S L.sc.toNat) }) else (false, L))
  else if c = 2 then (if L.sc < L.n ∧ L.m < 4096 then (true, { L with S := upd L.S L.sc.toNat (memF L.M L.ad.toNat), m := L.m + 1 }) else (false, L))
  else (false, L)
theorem moves_place (b : Nat) (P : Ph) (L : Lg) (c : Int) (w : World) (h : Bus w b P L) (hp : placeB L = false) : Calls Tryz.prog 110 #[.pointer (some ⟨b, 0, none⟩), .int .u32 c] w fun e w' => e = .returned (.bool false) ∧ w' = w := by
  have c7 := h.nine.c7
  have a0 := h.ad.1
  have a1 := h.ad.2
  unfold placeB at hp
  simp only [decide_eq_false_iff_not] at hp
  clear h
  by_cases h4 : L.ad % 4 = 0
  · have h5 : 1047552 < L.ad := by omega
    clear hp
    go_enter Tryz.func110, Tryz.ntmps110
    go_wp2
    go_ret
    exact ⟨rfl, rfl⟩
  · clear hp
    go_enter Tryz.func110, Tryz.ntmps110
    go_wp2
    go_ret
    exact ⟨rfl, rfl⟩
theorem drewNB (w : World) (n : Nat) : Below w.heap.size w (w.drewN n) := bdrewN (Below.refl _ w) n
theorem moves_read_bad (b : Nat) (P : Ph) (L : Lg) (o : Nat) (w : World) (h : Bus w b P L) (ho : L.ad = o) (h4 : (o : Int) % 4 = 0) (h5 : (o : Int) ≤ 1047552) (hs : (L.n : Int) ≤ L.sc) : Calls Tryz.prog 110 #[.pointer (some ⟨b, 0, none⟩), .int .u32 1] w fun e w' => e = .returned (.bool false) ∧ Stp w b P w' P L := by
  have c7 := h.nine.c7
  have cc := h.nine.c0
  have H : Hid (Bus w b P L) := h
  rw [ho] at c7
  clear h ho
  have h6 : ¬ (1047552 : Int) < (o : Int) := by omega
  have h7 : (0 : Int) ≤ (o : Int) := by omega
  have h8 : (o : Int) ≤ 1048576 := by omega
  have h9 : 1024 ≤ 1048576 - o := by omega
  have h10 : o + 1024 ≤ 1048576 := by omega
  go_enter Tryz.func110, Tryz.ntmps110
  go_wp2
  go_quiet (fail)
  go_wp2_with (go_at_call 140; refine (readInto_bad b P L _ _ (H.out.below (drewNB w _)) hs).mono ?_; rintro e w1 ⟨rfl, hS⟩)
  go_ret
  exact ⟨rfl, (Stp.below H.out (drewNB w _)).trans hS⟩
theorem moves_read_ok (b : Nat) (P : Ph) (L : Lg) (s : Nat) (o : Nat) (w : World) (h : Bus w b P L) (ho : L.ad = o) (h4 : (o : Int) % 4 = 0) (h5 : (o : Int) ≤ 1047552) (hs : L.sc = s) (hn : s < L.n) : Calls Tryz.prog 110 #[.pointer (some ⟨b, 0, none⟩), .int .u32 1] w fun e w' => e = .returned (.bool true) ∧ Stp w b P w' P { L with M := layM L.M o (L.S s) } := by
  have c7 := h.nine.c7
  have cc := h.nine.c0
  have H : Hid (Bus w b P L) := h
  rw [ho] at c7
  clear h ho
  have h6 : ¬ (1047552 : Int) < (o : Int) := by omega
  have h7 : (0 : Int) ≤ (o : Int) := by omega
  have h8 : (o : Int) ≤ 1048576 := by omega
  have h9 : 1024 ≤ 1048576 - o := by omega
  have h10 : o + 1024 ≤ 1048576 := by omega
  go_enter Tryz.func110, Tryz.ntmps110
  go_wp2
  go_quiet (fail)
  go_wp2_with (go_at_call 140; refine (readInto_ok b P L s o _ _ (H.out.below (drewNB w _)) hs hn h10).mono ?_; rintro e w1 ⟨rfl, hS⟩)
  go_ret
  exact ⟨rfl, (Stp.below H.out (drewNB w _)).trans hS⟩
theorem moves_write_bad (b : Nat) (P : Ph) (L : Lg) (o : Nat) (w : World) (h : Bus w b P L) (ho : L.ad = o) (h4 : (o : Int) % 4 = 0) (h5 : (o : Int) ≤ 1047552) (hs : (L.n : Int) ≤ L.sc ∨ 4096 ≤ L.m) : Calls Tryz.prog 110 #[.pointer (some ⟨b, 0, none⟩), .int .u32 2] w fun e w' => e = .returned (.bool false) ∧ Stp w b P w' P L := by
  have c7 := h.nine.c7
  have cc := h.nine.c0
  have H : Hid (Bus w b P L) := h
  rw [ho] at c7
  clear h ho
  have h6 : ¬ (1047552 : Int) < (o : Int) := by omega
  have h7 : (0 : Int) ≤ (o : Int) := by omega
  have h8 : (o : Int) ≤ 1048576 := by omega
  have h9 : 1024 ≤ 1048576 - o := by omega
  have h10 : o + 1024 ≤ 1048576 := by omega
  go_enter Tryz.func110, Tryz.ntmps110
  go_wp2
  go_quiet (fail)
  go_wp2_with (go_at_call 141; refine (writeFrom_bad b P L o _ _ (H.out.below (drewNB w _)) h10 hs).mono ?_; rintro e w1 ⟨rfl, hS⟩)
  go_ret
  exact ⟨rfl, (Stp.below H.out (drewNB w _)).trans hS⟩
theorem moves_write_ok (b : Nat) (P : Ph) (L : Lg) (s : Nat) (o : Nat) (w : World) (h : Bus w b P L) (ho : L.ad = o) (h4 : (o : Int) % 4 = 0) (h5 : (o : Int) ≤ 1047552) (hs : L.sc = s) (hn : s < L.n) (hm : L.m < 4096) : Calls Tryz.prog 110 #[.pointer (some ⟨b, 0, none⟩), .int .u32 2] w fun e w' => e = .returned (.bool true) ∧ ∃ P', Stp w b P w' P' { L with S := upd L.S s (memF L.M o), m := L.m + 1 } := by
  have c7 := h.nine.c7
  have cc := h.nine.c0
  have H : Hid (Bus w b P L) := h
  rw [ho] at c7
  clear h ho
  have h6 : ¬ (1047552 : Int) < (o : Int) := by omega
  have h7 : (0 : Int) ≤ (o : Int) := by omega
  have h8 : (o : Int) ≤ 1048576 := by omega
  have h9 : 1024 ≤ 1048576 - o := by omega
  have h10 : o + 1024 ≤ 1048576 := by omega
  go_enter Tryz.func110, Tryz.ntmps110
  go_wp2
  go_quiet (fail)
  go_wp2_with (go_at_call 141; refine (writeFrom_ok b P L s o _ _ (H.out.below (drewNB w _)) h10 hs hn hm).mono ?_; rintro e w1 ⟨rfl, P', hS⟩)
  go_ret
  exact ⟨rfl, P', (Stp.below H.out (drewNB w _)).trans hS⟩
theorem moves_other (b : Nat) (P : Ph) (L : Lg) (c : Int) (o : Nat) (w : World) (h : Bus w b P L) (ho : L.ad = o) (h4 : (o : Int) % 4 = 0) (h5 : (o : Int) ≤ 1047552) (hc1 : ¬ c = 1) (hc2 : ¬ c = 2) : Calls Tryz.prog 110 #[.pointer (some ⟨b, 0, none⟩), .int .u32 c] w fun e w' => e = .returned (.bool false) ∧ Stp w b P w' P L := by
  have c7 := h.nine.c7
  have cc := h.nine.c0
  have H : Hid (Bus w b P L) := h
  rw [ho] at c7
  clear h ho
  have h6 : ¬ (1047552 : Int) < (o : Int) := by omega
  have h7 : (0 : Int) ≤ (o : Int) := by omega
  have h8 : (o : Int) ≤ 1048576 := by omega
  have h9 : 1024 ≤ 1048576 - o := by omega
  have h10 : o + 1024 ≤ 1048576 := by omega
  go_enter Tryz.func110, Tryz.ntmps110
  go_wp2
  go_quiet (fail)
  go_wp2
  go_ret
  exact ⟨rfl, Stp.below H.out (drewNB w _)⟩
theorem moves_any (b : Nat) (P : Ph) (L : Lg) (c : Int) (w : World) (h : Bus w b P L) : Calls Tryz.prog 110 #[.pointer (some ⟨b, 0, none⟩), .int .u32 c] w fun e w' => e = .returned (.bool (L.moved c).1) ∧ ∃ P', Stp w b P w' P' (L.moved c).2 := by
  have a0 := h.ad.1
  have s0 := h.sc.1
  unfold Lg.moved
  by_cases hp : placeB L = false
  · rw [if_pos hp]
    exact (moves_place b P L c w h hp).mono fun e w' ⟨he, hw⟩ => ⟨he, P, by rw [hw]; exact Stp.refl h⟩
  · rw [if_neg hp]
    obtain ⟨h4, h5⟩ : L.ad % 4 = 0 ∧ L.ad ≤ 1047552 := by simpa [placeB] using hp
    obtain ⟨o, ho⟩ := Int.eq_ofNat_of_zero_le a0
    obtain ⟨s, hs⟩ := Int.eq_ofNat_of_zero_le s0
    have eo : L.ad.toNat = o := by omega
    have es : L.sc.toNat = s := by omega
    rw [ho] at h4 h5
    by_cases c1 : c = 1
    · rw [if_pos c1]
      subst c1
      by_cases hn : L.sc < L.n
      · rw [if_pos hn, eo, es]
        exact (moves_read_ok b P L s o w h ho h4 h5 hs (by omega)).mono fun e w' ⟨he, hw⟩ => ⟨he, P, hw⟩
      · rw [if_neg hn]
        exact (moves_read_bad b P L o w h ho h4 h5 (by omega)).mono fun e w' ⟨he, hw⟩ => ⟨he, P, hw⟩
    · rw [if_neg c1]
      by_cases c2 : c = 2
      · rw [if_pos c2]
        subst c2
        by_cases hn : L.sc < L.n ∧ L.m < 4096
        · rw [if_pos hn, eo, es]
          exact moves_write_ok b P L s o w h ho h4 h5 hs (by omega) hn.2
        · rw [if_neg hn]
          exact (moves_write_bad b P L o w h ho h4 h5 (by omega)).mono fun e w' ⟨he, hw⟩ => ⟨he, P, hw⟩
      · rw [if_neg c2]
        exact (moves_other b P L c o w h ho h4 h5 c1 c2).mono fun e w' ⟨he, hw⟩ => ⟨he, P, hw⟩
def Lg.obeyed (L : Lg) (c : Int) : Lg := { (L.moved c).2 with cm := if (L.moved c).1 then 0 else 1 }
theorem u32K : U32 1 := ⟨by decide, by decide⟩
theorem u32J : U32 0 := ⟨by decide, by decide⟩
theorem obey_of (b : Nat) (P : Ph) (L' : Lg) (c : Int) (r : Bool) (w : World) (h : Calls Tryz.prog 110 #[.pointer (some ⟨b, 0, none⟩), .int .u32 c] w fun e w' => e = .returned (.bool r) ∧ ∃ P', Stp w b P w' P' L') : Calls Tryz.prog 80 #[.pointer (some ⟨b, 0, none⟩), .int .u32 c] w fun e w' => e = .returned (.tuple #[]) ∧ ∃ P', Stp w b P w' P' { L' with cm := if r then 0 else 1 } := by
  have HC : Hid (Calls Tryz.prog 110 #[.pointer (some ⟨b, 0, none⟩), .int .u32 c] w fun e w' => e = .returned (.bool r) ∧ ∃ P', Stp w b P w' P' L') := h
  clear h
  cases r
  · go_enter Tryz.func80, Tryz.ntmps80
    go_wp2_with (go_at_call 110; refine HC.out.mono ?_; rintro e w1 ⟨rfl, P', hS⟩; have c8 := hS.bus.nine.c8; have f8 := hS.bus.free (j := 8) (by omega); have HS : Hid (Stp w b P w1 P' L') := hS; clear hS)
    go_end0
    exact ⟨rfl, P', HS.out.trans (Stp.put HS.out.bus (show Core w1 b P' { L' with cm := 1 } from { HS.out.bus.toCore with cm := u32K }) 8 _ rfl)⟩
  · go_enter Tryz.func80, Tryz.ntmps80
    go_wp2_with (go_at_call 110; refine HC.out.mono ?_; rintro e w1 ⟨rfl, P', hS⟩; have c8 := hS.bus.nine.c8; have f8 := hS.bus.free (j := 8) (by omega); have HS : Hid (Stp w b P w1 P' L') := hS; clear hS)
    go_end0
    exact ⟨rfl, P', HS.out.trans (Stp.put HS.out.bus (show Core w1 b P' { L' with cm := 0 } from { HS.out.bus.toCore with cm := u32J }) 8 _ rfl)⟩
theorem obey_any (b : Nat) (P : Ph) (L : Lg) (c : Int) (w : World) (h : Bus w b P L) : Calls Tryz.prog 80 #[.pointer (some ⟨b, 0, none⟩), .int .u32 c] w fun e w' => e = .returned (.tuple #[]) ∧ ∃ P', Stp w b P w' P' (L.obeyed c) := obey_of b P _ c _ w (moves_any b P L c w h)
end Go.Proofs.YteegkhnikcioiaaGreatDoor
