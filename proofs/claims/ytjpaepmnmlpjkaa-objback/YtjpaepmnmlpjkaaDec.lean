/-
  Layer 7: Decode.
-/
import Derived.Test.YtjpaepmnmlpjkaaRgt
import Derived.Test.YtjpaepmnmlpjkaaPln
namespace Go.Proofs.Ytjpaepmnmlpjkaa
set_option linter.unusedVariables false
set_option linter.unusedSimpArgs false
open Go.ChangeShapes Go.WideShapes Go.ChangeAt Go.RowKit
attribute [local go_sem ↓] loadO_seal storeO_seal

def markS : ByteArray := ⟨#[67, 82, 79, 49]⟩
/-- What Decode tells beside the object: a place and an error. -/
def decR (f : Nat → Int) (len : Nat) : Int × Int :=
  if len ≤ 1048576 ∧ 8 ≤ len ∧ strOfNums (bl f 4) = markS then
    if gotW len f ((len - 4 : Nat) : Int) = fnv f (len - 4) then
      if (objS f (len - 4) ⟨4, false⟩).2.st = true ∨ (objS f (len - 4) ⟨4, false⟩).2.p < len - 4 then ((objS f (len - 4) ⟨4, false⟩).2.p, 71)
      else if rightB (objS f (len - 4) ⟨4, false⟩).1 = true then (0, 0) else (0, 70)
    else ((len - 4 : Nat), 72)
  else (0, 71)
theorem Src.less {w : World} {a : Option Addr} {len cap : Nat} {f : Nat → Int} (h : Src w a len cap f) (e : Nat) (he : e ≤ len) : RdB w a e f := by
  refine ⟨Nat.le_trans he h.rd.1, ?_⟩
  rcases h.rd.2 with h0 | ⟨b, off, h1, h2⟩
  · exact .inl (by omega)
  · exact .inr ⟨b, off, h1, fun i hi => h2 i (by omega)⟩
theorem zero_at (w : World) : OAt (w.alloc zeroO) w.heap.size Oc.zero := blk_new w zeroO
/-- What stands behind the reading of an object. -/
structure De (w X : World) (be ga : Nat) (a : Option Addr) (e cap : Nat) (f : Nat → Int) (c : Oc) (o : Ob) (s : St) (B : Nat) : Prop where
  t2 : OAt X w.heap.size Oc.zero
  og : OAt X ga c
  rd : Rdr X be a e cap f s
  ob : ObAt X B c o
  bel : Below w.heap.size w X
  lo : w.heap.size < be ∧ w.heap.size < ga ∧ w.heap.size < B ∧ be ≠ ga
theorem De.below {w X Y : World} {be ga : Nat} {a : Option Addr} {e cap : Nat} {f : Nat → Int} {c : Oc} {o : Ob} {s : St} {B : Nat} (h : De w X be ga a e cap f c o s B) (hb : Below X.heap.size X Y) : De w Y be ga a e cap f c o s B := by
  have hs := h.t2.lt
  have hx : ∀ k, k < X.heap.size → Y.heap[k]? = X.heap[k]? := fun k hk => hb.block k hk
  exact ⟨(hx _ h.t2.lt).trans h.t2, (hx _ h.og.lt).trans h.og, h.rd.below hb, h.ob.tq (Tq.below (P := fun _ => False) hb) (fun _ _ e => e), h.bel.trans (hb.mono (Nat.le_of_lt hs)), h.lo⟩
theorem own_wlt {X : World} {B : Nat} {e : TypeId} {k : Nat} {v : Value} {n : Nat} {xs : List Value} (h : X.ownsRow B e k v n xs) (g : Nat) (hg : v.ownBlock = some g) : g < X.heap.size := (h.lt g hg).2
theorem ObAt.below {X Y : World} {B : Nat} {c : Oc} {o : Ob} (h : ObAt X B c o) (hb : Below X.heap.size X Y) : ObAt Y B c o := h.tq (Tq.below (P := fun _ => False) hb) (fun _ _ e => e)
/-- An object's rows lie in blocks that were there. -/
theorem ObAt.tq2 {X Y : World} {B : Nat} {c : Oc} {o : Ob} {P : Nat → Prop} (h : ObAt X B c o) (t : Tq X Y P) (hp : ∀ k, k < X.heap.size → ¬ P k) : ObAt Y B c o := by
  obtain ⟨l, h1, h2, h3⟩ := h.ds
  exact ⟨h.nm, h.key, h.ini, t.own h.im fun g hg => hp g (own_wlt h.im g hg), t.own h.co fun g hg => hp g (own_wlt h.co g hg), t.own h.pr fun g hg => hp g (own_wlt h.pr g hg), t.own h.na fun g hg => hp g (own_wlt h.na g hg), t.own h.ex fun g hg => hp g (own_wlt h.ex g hg), t.own h.va fun g hg => hp g (own_wlt h.va g hg), t.own h.sh fun g hg => hp g (own_wlt h.sh g hg), t.own h.st fun g hg => hp g (own_wlt h.st g hg),
    ⟨l, h1, t.own h2 fun g hg => hp g (own_wlt h2 g hg), fun p hq => t.own (h3 p hq) fun g hg => hp g (own_wlt (h3 p hq) g hg)⟩, t.own h.fx fun g hg => hp g (own_wlt h.fx g hg)⟩
/-- The reading of an object, and that it is kept in a cell. -/
theorem stage (w X : World) (b off e cap : Nat) (f : Nat → Int) (hX : Below w.heap.size w X) (ht : OAt X w.heap.size Oc.zero) (hs : Src w (some ⟨b, off, none⟩) (e + 4) cap f) (hc : e + 4 ≤ cap) (he : 4 ≤ e) (he2 : e ≤ 1048572) :
    Calls Try.prog 31 #[.pointer (some ⟨X.heap.size, 0, none⟩)] (X.alloc (.cells #[.slice (some ⟨b, off, none⟩) e cap, .int .i64 4, .bool false] 64)) fun en Y => ∃ c o Z, en = .returned (.agg (Oc.cells c)) ∧ (storeO ⟨Y.heap.size, 0, none⟩ (.agg c.cells)).run Try.prog (Y.alloc zeroO) = .ok () Z ∧ Hid (De w Z X.heap.size Y.heap.size (some ⟨b, off, none⟩) e cap f c o (objS f e ⟨4, false⟩).2 (X.heap.size + 5) ∧ ((objS f e ⟨4, false⟩).2.st = false → o = (objS f e ⟨4, false⟩).1)) := by
  have hbw : b < w.heap.size := by
    rcases hs.rd.2 with h0 | ⟨b', off', e1, h2⟩
    · omega
    · injection e1 with e1; injection e1 with e1 e2; subst e1 e2
      exact World.block_lt_of_cell? w ⟨b, off + 0, none⟩ (h2 0 (by omega)).1
  have hsz := hX.size
  have htl := ht.lt
  have hb1 : Below X.heap.size X (X.alloc (.cells #[.slice (some ⟨b, off, none⟩) e cap, .int .i64 4, .bool false] 64)) := (Below.refl _ _).alloc (Nat.le_refl _) _
  have hR : Rdr (X.alloc (.cells #[.slice (some ⟨b, off, none⟩) e cap, .int .i64 4, .bool false] 64)) X.heap.size (some ⟨b, off, none⟩) e cap f ⟨4, false⟩ := by
    refine ⟨blk_new _ _, ⟨?_, (fun h => by cases h), by omega⟩, by omega, he, by omega, fun ad hd => ?_⟩
    · exact ((hs.below (hX.trans (hb1.mono (by omega)))).less e (by omega))
    · injection hd with hd; subst hd; exact ⟨by simp; omega, by simp; omega⟩
  refine (object_of _ X.heap.size e cap _ f ⟨4, false⟩ hR).mono fun en Y hh => ?_
  obtain ⟨c, o, h1, h2, h3, h4, h5⟩ := hh
  have hYs := h5.size
  simp at hYs
  obtain ⟨Z, z1, z2, z3⟩ := storeO_run (zero_at Y) c
  refine ⟨c, o, Z, h1, z1, ⟨?_, z2, ?_, ?_, ?_, by omega, by omega, by omega, by omega⟩, h3⟩
  · have : OAt (Y.alloc zeroO) w.heap.size Oc.zero := (Below.heap_alloc _ _ _ (by omega)).trans ((h5.block _ (by simp; omega) (fun e => by injection e with e; omega)).trans ((Below.heap_alloc _ _ _ (by omega)).trans ht))
    exact this.tq z3 (by omega)
  · have hr2 : Rdr (Y.alloc zeroO) X.heap.size (some ⟨b, off, none⟩) e cap f (objS f e ⟨4, false⟩).2 := h4.below ((Below.refl _ _).alloc (Nat.le_refl _) _)
    exact z3.rdr hr2 (by omega) (fun ad hd => by injection hd with hd; subst hd; show ¬ b = Y.heap.size; omega)
  · have ho2 : ObAt Y (X.heap.size + 5) c o := by
      have := h2
      rw [show (X.alloc (.cells #[.slice (some ⟨b, off, none⟩) e cap, .int .i64 4, .bool false] 64)).heap.size + 4 = X.heap.size + 5 by simp] at this
      exact this
    have t : Tq Y Z (fun k => k = Y.heap.size) := (Tq.below (P := fun k => k = Y.heap.size) ((Below.refl _ _).alloc (Nat.le_refl _) _)).trans z3
    exact ho2.tq2 t (fun k hk => by omega)
  · have : Below w.heap.size w (Y.alloc zeroO) := by
      have h6 : Below w.heap.size w Y := ⟨h5.os.trans (hX.alloc hsz _).os, h5.tape.trans (hX.alloc hsz _).tape, h5.output.trans (hX.alloc hsz _).output, by omega, fun k hk => (h5.block k (by simp; omega) (fun e => by injection e with e; omega)).trans ((hX.alloc hsz _).block k hk)⟩
      exact h6.alloc (by omega) _
    exact Below.of_tq this z3 fun k hk => by omega
theorem conv4 {w X : World} {b off len cap : Nat} {f : Nat → Int} (h : Src w (some ⟨b, off, none⟩) len cap f) (hX : Below w.heap.size w X) (hl : 4 ≤ len) : (convert 35 9 (.slice (some ⟨b, off, none⟩) 4 cap)).run Try.prog X = .ok (.string (strOfNums (bl f 4))) X := conv_rd cap ((h.below hX).less 4 hl)
def PostC (w : World) (f : Nat → Int) (len : Nat) (e : Ending) (w' : World) : Prop := ∃ c : Oc, e = .returned (.tuple #[.agg c.cells, .int .i64 (decR f len).1, .int .i64 (decR f len).2]) ∧ Below w.heap.size w w' ∧ ((decR f len).2 ≠ 0 → c = Oc.zero) ∧ ((decR f len).2 = 0 → ∃ B, w.heap.size < B ∧ ObAt w' B c (objS f (len - 4) ⟨4, false⟩).1)
theorem postC_bad {w w' : World} {f : Nat → Int} {len : Nat} {p r : Int} (h : decR f len = (p, r)) (hr : r ≠ 0) (hb : Below w.heap.size w w') : PostC w f len (.returned (.tuple #[.agg Oc.zero.cells, .int .i64 p, .int .i64 r])) w' := ⟨Oc.zero, by rw [h], hb, fun _ => rfl, fun e => by rw [h] at e; exact absurd e hr⟩
set_option maxHeartbeats 4000000 in
set_option maxRecDepth 20000 in
theorem decode_long (w : World) (a : Option Addr) (len cap : Nat) (f : Nat → Int) (h : Src w a len cap f) (hl : 1048576 < len) : Calls Try.prog 14 #[.slice a len cap] w (PostC w f len) := by
  have hR : decR f len = (0, 71) := by unfold decR; rw [if_neg (by omega)]
  have hfit := h.fit
  obtain ⟨Z, hst, hz, ht⟩ := storeO_run (zero_at w) Oc.zero
  have HB : Hid (Below w.heap.size w Z) := Below.of_tq (by go_grown) ht fun k hk => by omega
  have d1 : decide ((1048576 : Int) < (len : Int)) = true := decide_eq_true (by omega)
  have d2 : 1048576 < len := hl
  clear h
  unfold zeroO at hst
  simp only [Oc.cells, Oc.zero] at hst
  go_enter Try.func14, Try.ntmps14
  go_wp2
  refine ret_cell_tmp2 (p := 2) (q := 3) (r := 4) rfl rfl (loadO_run hz) rfl ?_
  exact postC_bad hR (by omega) HB.out
set_option maxHeartbeats 4000000 in
set_option maxRecDepth 20000 in
theorem decode_short (w : World) (a : Option Addr) (len cap : Nat) (f : Nat → Int) (h : Src w a len cap f) (hl : len < 8) : Calls Try.prog 14 #[.slice a len cap] w (PostC w f len) := by
  have hR : decR f len = (0, 71) := by unfold decR; rw [if_neg (by omega)]
  obtain ⟨Z, hst, hz, ht⟩ := storeO_run (zero_at w) Oc.zero
  have HB : Hid (Below w.heap.size w Z) := Below.of_tq (by go_grown) ht fun k hk => by omega
  have d1 : decide ((1048576 : Int) < (len : Int)) = false := decide_eq_false (by omega)
  have d2 : ¬ 1048576 < len := by omega
  have d3 : decide ((len : Int) < 8) = true := decide_eq_true (by omega)
  have d4 : len < 8 := hl
  clear h
  unfold zeroO at hst
  simp only [Oc.cells, Oc.zero] at hst
  go_enter Try.func14, Try.ntmps14
  go_wp2
  refine ret_cell_tmp2 (p := 2) (q := 3) (r := 4) rfl rfl (loadO_run hz) rfl ?_
  exact postC_bad hR (by omega) HB.out
theorem Src.some {w : World} {a : Option Addr} {len cap : Nat} {f : Nat → Int} (h : Src w a len cap f) (h0 : 0 < len) : ∃ b off, a = some ⟨b, off, none⟩ := by
  rcases h.rd.2 with e | ⟨b, off, e, _⟩
  · omega
  · exact ⟨b, off, e⟩
set_option maxHeartbeats 4000000 in
set_option maxRecDepth 20000 in
theorem decode_mark (w : World) (b off len cap : Nat) (f : Nat → Int) (h : Src w (some ⟨b, off, none⟩) len cap f) (hc : len ≤ cap) (hl : 8 ≤ len) (hl2 : len ≤ 1048576) (hm : strOfNums (bl f 4) ≠ markS) : Calls Try.prog 14 #[.slice (some ⟨b, off, none⟩) len cap] w (PostC w f len) := by
  have hR : decR f len = (0, 71) := by unfold decR; rw [if_neg (fun e => hm e.2.2)]
  obtain ⟨Z, hst, hz, ht⟩ := storeO_run (zero_at w) Oc.zero
  have HB : Hid (Below w.heap.size w Z) := Below.of_tq (by go_grown) ht fun k hk => by omega
  have d1 : decide ((1048576 : Int) < (len : Int)) = false := decide_eq_false (by omega)
  have d2 : ¬ 1048576 < len := by omega
  have d3 : decide ((len : Int) < 8) = false := decide_eq_false (by omega)
  have d4 : ¬ len < 8 := by omega
  have d5 : (4 : Int) ≤ (cap : Int) := by omega
  have d6 : 4 ≤ cap := by omega
  have hv := conv4 h (X := w.alloc zeroO) (by go_grown) (by omega)
  unfold markS at hm
  generalize strOfNums (bl f 4) = S4 at hv hm
  have hm2 : (S4.toList == [67, 82, 79, 49]) = false := by rw [Lib.toList_data]; simp only [beq_eq_false_iff_ne, ne_eq]; exact fun e => hm (by cases S4 with | mk d => cases d with | mk l => exact congrArg (fun t => ByteArray.mk ⟨t⟩) e)
  clear h
  unfold zeroO at hst hv
  simp only [Oc.cells, Oc.zero] at hst
  go_enter Try.func14, Try.ntmps14
  go_wp2
  refine ret_cell_tmp2 (p := 2) (q := 3) (r := 4) rfl rfl (loadO_run hz) rfl ?_
  exact postC_bad hR (by omega) HB.out
set_option maxHeartbeats 4000000 in
set_option maxRecDepth 20000 in
theorem decode_sum (w : World) (b off e cap : Nat) (f : Nat → Int) (h : Src w (some ⟨b, off, none⟩) (e + 4) cap f) (hc : e + 4 ≤ cap) (hl : 4 ≤ e) (hl2 : e ≤ 1048572) (hm : strOfNums (bl f 4) = markS) (hs : ¬ gotW (e + 4) f (e : Int) = fnv f e) : Calls Try.prog 14 #[.slice (some ⟨b, off, none⟩) ((e + 4 : Nat)) cap] w (PostC w f (e + 4)) := by
  have hR : decR f (e + 4) = ((e : Int), 72) := by unfold decR; rw [if_pos ⟨by omega, by omega, hm⟩, Nat.add_sub_cancel, if_neg hs]
  have d1 : decide ((1048576 : Int) < ((e + 4 : Nat) : Int)) = false := decide_eq_false (by omega)
  have d2 : ¬ 1048576 < e + 4 := by omega
  have d3 : decide (((e + 4 : Nat) : Int) < 8) = false := decide_eq_false (by omega)
  have d4 : ¬ e + 4 < 8 := by omega
  have d5 : (4 : Int) ≤ (cap : Int) := by omega
  have d6 : 4 ≤ cap := by omega
  have d7 : (e : Int) ≤ (cap : Int) := by omega
  have d8 : e ≤ cap := by omega
  have d9 : IntKind.i64.wrap (((e + 4 : Nat) : Int) - 4) = (e : Int) := by rw [IntWalk.i64_left, IntWalk.wrap64_in] <;> omega
  have e1 : decide ((1048576 : Int) < (e : Int) + 4) = false := decide_eq_false (by omega)
  have e3 : decide ((e : Int) + 4 < 8) = false := decide_eq_false (by omega)
  have e9 : IntKind.i64.wrap (e : Int) = (e : Int) := by rw [IntWalk.i64_left, IntWalk.wrap64_in] <;> omega
  have e8 : (0 : Int) ≤ (e : Int) := by omega
  have hv := conv4 h (X := w.alloc zeroO) (by go_grown) (by omega)
  rw [hm] at hv
  have T0 : Hid (Below w.heap.size w (w.alloc zeroO) ∧ OAt (w.alloc zeroO) w.heap.size Oc.zero) := ⟨by go_grown, zero_at w⟩
  have GT : Hid (∀ X, Below w.heap.size w X ∧ OAt X w.heap.size Oc.zero → Calls Try.prog 29 #[.slice (some ⟨b, off, none⟩) ((e + 4 : Nat)) cap, .int .i64 (e : Int)] X fun en Y => en = .returned (.tuple #[.int .u32 (gotW (e + 4) f (e : Int)), .bool (fits (e + 4) (e : Int))]) ∧ ∃ Z, (storeO ⟨w.heap.size, 0, none⟩ (.agg Oc.zero.cells)).run Try.prog Y = .ok () Z ∧ Hid (OAt Z w.heap.size Oc.zero ∧ Below w.heap.size w Z) ∧ Hid (Below w.heap.size w Y)) := fun X hX => (get_any (some ⟨b, off, none⟩) (e + 4) cap f e X (h.below hX.1).rd).mono fun en Y hh => by
    have hb2 := hX.1.trans (hh.2.mono hX.1.size)
    obtain ⟨Z, z1, z2, z3⟩ := storeO_run (o := Oc.zero) ((hh.2.block _ hX.2.lt).trans hX.2) Oc.zero
    exact ⟨hh.1, Z, z1, ⟨z2, Below.of_tq hb2 z3 fun k hk => by omega⟩, hb2⟩
  have SM : Hid (∀ X, Below w.heap.size w X → Calls Try.prog 30 #[.slice (some ⟨b, off, none⟩) e cap] X fun en Y => en = .returned (.int .u32 (fnv f e)) ∧ Y = X) := fun X hX => sum_any _ e cap f X ((h.below hX).less e (by omega))
  generalize gotW (e + 4) f (e : Int) = gw at *
  generalize fnv f e = fv at *
  generalize fits (e + 4) (e : Int) = ft at *
  have n1 : (gw != fv) = true := by simp; exact hs
  clear h hs hm
  unfold zeroO at T0 hv
  simp only [Oc.cells, Oc.zero] at GT
  unfold markS at hv
  go_enter Try.func14, Try.ntmps14
  go_wp2_with (first
    | (go_at_call 29; refine (GT.out _ T0.out).mono ?_; rintro en w1 ⟨rfl, Z, hst, HZ, HB⟩)
    | (go_at_call 30; refine (SM.out _ HB.out).mono ?_; rintro en w2 ⟨rfl, hw⟩; rw [hw]; clear hw))
  refine ret_cell_tmp2 (p := 2) (q := 3) (r := 4) rfl rfl (loadO_run HZ.out.1) rfl ?_
  exact postC_bad hR (by omega) HZ.out.2
end Go.Proofs.Ytjpaepmnmlpjkaa
