/-
  Layer 7, plain: what is written are bytes.
  Layer 7: the writer writes an object, and its sum.
  Layer 7: Encode.
  Layer 7: Decode.
  Layer 7: Decode, behind the sum.
  Layer 7: the law's Same, at two objects of noughts.
  Layer 7: what is read is written as the same bytes: the law's walk.
-/
import Derived.Test.YtepgifapepaheaaPln
import Derived.Test.YtepgifapepaheaaWob
import Derived.Test.YtepgifapepaheaaRgt
import Derived.Test.YtepgifapepaheaaRob
namespace Go.Proofs.Ytepgifapepaheaa
set_option linter.unusedVariables false
set_option linter.unusedSimpArgs false

def AllB (l : List Int) : Prop := ∀ x ∈ l, 0 ≤ x ∧ x ≤ 255
theorem AllB.app {a b : List Int} (h : AllB a) (g : AllB b) : AllB (a ++ b) := fun x hx => by
  rcases List.mem_append.1 hx with e | e
  · exact h x e
  · exact g x e
theorem numL_by : ∀ (f : Nat) (n : Int), 0 ≤ n → n < 128 ^ (f + 1) → AllB (numL f n)
  | 0, n, h0, h1 => fun x hx => by
    rw [numL] at hx
    rw [List.mem_singleton.1 hx]
    have : (128 : Int) ^ (0 + 1) = 128 := rfl
    omega
  | f + 1, n, h0, h1 => by
    rw [numL]
    split
    · intro x hx
      rw [List.mem_singleton.1 hx]
      omega
    · intro x hx
      rcases List.mem_cons.1 hx with e | e
      · rw [e]; omega
      · refine numL_by f (n / 128) (by omega) ?_ x e
        rw [Int.pow_succ] at h1
        omega
theorem num_by (n : Int) (h0 : 0 ≤ n) (h1 : n ≤ 4294967295) : AllB (numL 4 n) := numL_by 4 n h0 (by have : (128 : Int) ^ (4 + 1) = 34359738368 := rfl; omega)
theorem text_by (s : ByteArray) : AllB (textL s) := by
  unfold textL
  refine AllB.app (num_by _ (by omega) (by omega)) fun x hx => ?_
  unfold sL at hx
  obtain ⟨b, _, rfl⟩ := List.mem_map.1 hx
  have := b.toNat_lt
  omega
theorem wd_by (x : Int) : AllB (wdL x) := by
  intro y hy
  unfold wdL at hy
  simp only [List.mem_cons, List.not_mem_nil, or_false] at hy
  rcases hy with rfl | rfl | rfl | rfl <;> exact byteOf_bd _ _
theorem row_by {α : Type} (L : α → List Int) (l : List α) (hn : l.length ≤ 65536) (h : ∀ x ∈ l, AllB (L x)) : AllB (rowL L l) := by
  unfold rowL
  refine AllB.app (num_by _ (by omega) (by omega)) fun y hy => ?_
  obtain ⟨t, ht, hy2⟩ := List.mem_flatten.1 hy
  obtain ⟨x, hx, rfl⟩ := List.mem_map.1 ht
  exact h x hx y hy2
theorem body_by {o : Ob} (h : Fine o) : AllB (bodyL o) := by
  unfold bodyL
  have hp : (prcsOf o).length = o.procs.length := by simp [prcsOf]
  refine (text_by _).app ((wd_by _).app ((row_by _ _ h.im.1 fun x _ => (text_by _).app (wd_by _)).app ((row_by _ _ h.co fun x _ => wd_by _).app ((row_by _ _ (by rw [hp]; exact h.pr.1) fun x hx => ?_).app ((num_by _ h.ini.1 h.ini.2).app ((row_by _ _ h.va.1 fun x hx => num_by _ (h.va.2 x hx).1 (h.va.2 x hx).2).app ((row_by _ _ h.sh.1 fun x hx => num_by _ (h.sh.2 x hx).1 (h.sh.2 x hx).2).app ((row_by _ _ h.st.1 fun x _ => text_by _).app ((row_by _ _ h.ds.1 fun x hx => ?_).app (row_by _ _ h.fx.1 fun x hx => ?_))))))))))
  · unfold prcsOf at hx
    obtain ⟨i, hi, rfl⟩ := List.mem_map.1 hx
    have hi2 := List.mem_range.1 hi
    unfold prcL
    have hm := h.pr.2 (o.procs.getD i 0) (by rw [List.getD_eq_getElem?_getD, List.getElem?_eq_getElem hi2]; exact List.getElem_mem hi2)
    refine (num_by _ hm.1 hm.2).app ((text_by _).app fun y hy => ?_)
    rw [List.mem_singleton.1 hy]
    split <;> omega
  · have hm := h.ds.2 x hx
    unfold dscL
    exact (num_by _ hm.1.1 hm.1.2).app ((num_by _ hm.2.1.1 hm.2.1.2).app (row_by _ _ hm.2.2.1 fun t ht => num_by _ (hm.2.2.2 t ht).1 (hm.2.2.2 t ht).2))
  · have hm := h.fx.2 x hx
    unfold fixL
    refine (num_by _ hm.1.1 hm.1.2).app (AllB.app (fun y hy => ?_) ((num_by _ (by omega) (by omega)).app (num_by _ hm.2.2.2.1 hm.2.2.2.2)))
    rw [List.mem_singleton.1 hy]
    exact hm.2.1
end Go.Proofs.Ytepgifapepaheaa

namespace Go.Proofs.Ytepgifapepaheaa
set_option linter.unusedVariables false
set_option linter.unusedSimpArgs false
open Go.ChangeShapes Go.WideShapes Go.ChangeAt Go.RowKit
attribute [local go_sem] Oc.at0 Oc.at1 Oc.at2 Oc.at3 Oc.at4 Oc.at5 Oc.at6 Oc.at7 Oc.at8 Oc.at9 Oc.at10 Oc.at11 Oc.at12

theorem ow_rdb {X : World} {B : Nat} {a : Option Addr} {n c : Nat} {l : List Int} (h : Ow X B (.slice a n c) l) (hb : AllB l) (hl : l.length ≤ 1000000000) : RdB X a n (fun i => l.getD i 0) ∧ n = l.length := by
  have hn : n = l.length := by
    unfold Ow at h
    rcases h.2 with ⟨hv, h0⟩ | ⟨g', cap, cur, hv, _⟩
    · injection hv with _ e _; rw [e, h0]
    · injection hv
  refine ⟨⟨by unfold maxLen; omega, ?_⟩, hn⟩
  by_cases h0 : l = []
  · subst h0; exact .inl hn
  · obtain ⟨g, c2, hv, _, _⟩ := ow_at h h0
    injection hv with e1 e2 e3
    subst e1
    refine .inr ⟨g, 0, rfl, fun i hi => ?_⟩
    rw [hn] at hi
    have hm : l.getD i 0 ∈ l := by rw [List.getD_eq_getElem?_getD, List.getElem?_eq_getElem hi]; exact List.getElem_mem hi
    rw [Nat.zero_add]
    exact ⟨(ow_cell h i hi).1, hb _ hm⟩
attribute [local go_sem ↓] appN_seal
end Go.Proofs.Ytepgifapepaheaa

namespace Go.Proofs.Ytepgifapepaheaa
set_option linter.unusedVariables false
set_option linter.unusedSimpArgs false
open Go.ChangeShapes Go.WideShapes Go.ChangeAt Go.RowKit
attribute [local go_sem] Oc.at0 Oc.at1 Oc.at2 Oc.at3 Oc.at4 Oc.at5 Oc.at6 Oc.at7 Oc.at8 Oc.at9 Oc.at10 Oc.at11 Oc.at12
attribute [local go_sem ↓] loadO_seal

end Go.Proofs.Ytepgifapepaheaa

namespace Go.Proofs.Ytepgifapepaheaa
set_option linter.unusedVariables false
set_option linter.unusedSimpArgs false
open Go.ChangeShapes Go.WideShapes Go.ChangeAt Go.RowKit
attribute [local go_sem ↓] loadO_seal storeO_seal

def markS : ByteArray := ⟨#[67, 82, 79, 49]⟩
/-- What Decode tells beside the object: a place and an error. -/
def decR (f : Nat → Int) (len : Nat) : Int × Int :=
  if len ≤ 1048576 ∧ 8 ≤ len ∧ strOfNums (bl f 4) = markS then
    if gotW len f ((len - 4 : Nat) : Int) = fnv f (len - 4) then
      if (objS f (len - 4) ⟨4, false⟩).2.st = true ∨ (objS f (len - 4) ⟨4, false⟩).2.p < len - 4 then ((objS f (len - 4) ⟨4, false⟩).2.p, 71)
      else if rightB (objS f (len - 4) ⟨4, false⟩).1 = true then (0, 0) else (0, 70)
    else ((len - 4 : Nat), 72)
  else (0, 71)
theorem Src.less {w : World} {a : Option Addr} {len cap : Nat} {f : Nat → Int} (h : Src w a len cap f) (e : Nat) (he : e ≤ len) : RdB w a e f := by
  refine ⟨Nat.le_trans he h.rd.1, ?_⟩
  rcases h.rd.2 with h0 | ⟨b, off, h1, h2⟩
  · exact .inl (by omega)
  · exact .inr ⟨b, off, h1, fun i hi => h2 i (by omega)⟩
theorem zero_at (w : World) : OAt (w.alloc zeroO) w.heap.size Oc.zero := blk_new w zeroO
/-- What stands behind the reading of an object. -/
structure De (w X : World) (be ga : Nat) (a : Option Addr) (e cap : Nat) (f : Nat → Int) (c : Oc) (o : Ob) (s : St) (B : Nat) : Prop where
  t2 : OAt X w.heap.size Oc.zero
  og : OAt X ga c
  rd : Rdr X be a e cap f s
  ob : ObAt X B c o
  bel : Below w.heap.size w X
  lo : w.heap.size < be ∧ w.heap.size < ga ∧ w.heap.size < B ∧ be ≠ ga
theorem De.below {w X Y : World} {be ga : Nat} {a : Option Addr} {e cap : Nat} {f : Nat → Int} {c : Oc} {o : Ob} {s : St} {B : Nat} (h : De w X be ga a e cap f c o s B) (hb : Below X.heap.size X Y) : De w Y be ga a e cap f c o s B := by
  have hs := h.t2.lt
  have hx : ∀ k, k < X.heap.size → Y.heap[k]? = X.heap[k]? := fun k hk => hb.block k hk
  exact ⟨(hx _ h.t2.lt).trans h.t2, (hx _ h.og.lt).trans h.og, h.rd.below hb, h.ob.tq (Tq.below (P := fun _ => False) hb) (fun _ _ e => e), h.bel.trans (hb.mono (Nat.le_of_lt hs)), h.lo⟩
theorem own_wlt {X : World} {B : Nat} {e : TypeId} {k : Nat} {v : Value} {n : Nat} {xs : List Value} (h : X.ownsRow B e k v n xs) (g : Nat) (hg : v.ownBlock = some g) : g < X.heap.size := (h.lt g hg).2
theorem ObAt.below {X Y : World} {B : Nat} {c : Oc} {o : Ob} (h : ObAt X B c o) (hb : Below X.heap.size X Y) : ObAt Y B c o := h.tq (Tq.below (P := fun _ => False) hb) (fun _ _ e => e)
/-- An object's rows lie in blocks that were there. -/
theorem ObAt.tq2 {X Y : World} {B : Nat} {c : Oc} {o : Ob} {P : Nat → Prop} (h : ObAt X B c o) (t : Tq X Y P) (hp : ∀ k, k < X.heap.size → ¬ P k) : ObAt Y B c o := by
  obtain ⟨l, h1, h2, h3⟩ := h.ds
  exact ⟨h.nm, h.key, h.ini, t.own h.im fun g hg => hp g (own_wlt h.im g hg), t.own h.co fun g hg => hp g (own_wlt h.co g hg), t.own h.pr fun g hg => hp g (own_wlt h.pr g hg), t.own h.na fun g hg => hp g (own_wlt h.na g hg), t.own h.ex fun g hg => hp g (own_wlt h.ex g hg), t.own h.va fun g hg => hp g (own_wlt h.va g hg), t.own h.sh fun g hg => hp g (own_wlt h.sh g hg), t.own h.st fun g hg => hp g (own_wlt h.st g hg),
    ⟨l, h1, t.own h2 fun g hg => hp g (own_wlt h2 g hg), fun p hq => t.own (h3 p hq) fun g hg => hp g (own_wlt (h3 p hq) g hg)⟩, t.own h.fx fun g hg => hp g (own_wlt h.fx g hg)⟩
/-- The reading of an object, and that it is kept in a cell. -/
theorem stage (w X : World) (b off e cap : Nat) (f : Nat → Int) (hX : Below w.heap.size w X) (ht : OAt X w.heap.size Oc.zero) (hs : Src w (some ⟨b, off, none⟩) (e + 4) cap f) (hc : e + 4 ≤ cap) (he : 4 ≤ e) (he2 : e ≤ 1048572) :
    Calls Try.prog 12 #[.pointer (some ⟨X.heap.size, 0, none⟩)] (X.alloc (.cells #[.slice (some ⟨b, off, none⟩) e cap, .int .i64 4, .bool false] 46)) fun en Y => ∃ c o Z, en = .returned (.agg (Oc.cells c)) ∧ (storeO ⟨Y.heap.size, 0, none⟩ (.agg c.cells)).run Try.prog (Y.alloc zeroO) = .ok () Z ∧ Hid (De w Z X.heap.size Y.heap.size (some ⟨b, off, none⟩) e cap f c o (objS f e ⟨4, false⟩).2 (X.heap.size + 5) ∧ ((objS f e ⟨4, false⟩).2.st = false → o = (objS f e ⟨4, false⟩).1)) := by
  have hbw : b < w.heap.size := by
    rcases hs.rd.2 with h0 | ⟨b', off', e1, h2⟩
    · omega
    · injection e1 with e1; injection e1 with e1 e2; subst e1 e2
      exact World.block_lt_of_cell? w ⟨b, off + 0, none⟩ (h2 0 (by omega)).1
  have hsz := hX.size
  have htl := ht.lt
  have hb1 : Below X.heap.size X (X.alloc (.cells #[.slice (some ⟨b, off, none⟩) e cap, .int .i64 4, .bool false] 46)) := (Below.refl _ _).alloc (Nat.le_refl _) _
  have hR : Rdr (X.alloc (.cells #[.slice (some ⟨b, off, none⟩) e cap, .int .i64 4, .bool false] 46)) X.heap.size (some ⟨b, off, none⟩) e cap f ⟨4, false⟩ := by
    refine ⟨blk_new _ _, ⟨?_, (fun h => by cases h), by omega⟩, by omega, he, by omega, fun ad hd => ?_⟩
    · exact ((hs.below (hX.trans (hb1.mono (by omega)))).less e (by omega))
    · injection hd with hd; subst hd; exact ⟨by simp; omega, by simp; omega⟩
  refine (object_of _ X.heap.size e cap _ f ⟨4, false⟩ hR).mono fun en Y hh => ?_
  obtain ⟨c, o, h1, h2, h3, h4, h5⟩ := hh
  have hYs := h5.size
  simp at hYs
  obtain ⟨Z, z1, z2, z3⟩ := storeO_run (zero_at Y) c
  refine ⟨c, o, Z, h1, z1, ⟨?_, z2, ?_, ?_, ?_, by omega, by omega, by omega, by omega⟩, h3⟩
  · have : OAt (Y.alloc zeroO) w.heap.size Oc.zero := (Below.heap_alloc _ _ _ (by omega)).trans ((h5.block _ (by simp; omega) (fun e => by injection e with e; omega)).trans ((Below.heap_alloc _ _ _ (by omega)).trans ht))
    exact this.tq z3 (by omega)
  · have hr2 : Rdr (Y.alloc zeroO) X.heap.size (some ⟨b, off, none⟩) e cap f (objS f e ⟨4, false⟩).2 := h4.below ((Below.refl _ _).alloc (Nat.le_refl _) _)
    exact z3.rdr hr2 (by omega) (fun ad hd => by injection hd with hd; subst hd; show ¬ b = Y.heap.size; omega)
  · have ho2 : ObAt Y (X.heap.size + 5) c o := by
      have := h2
      rw [show (X.alloc (.cells #[.slice (some ⟨b, off, none⟩) e cap, .int .i64 4, .bool false] 46)).heap.size + 4 = X.heap.size + 5 by simp] at this
      exact this
    have t : Tq Y Z (fun k => k = Y.heap.size) := (Tq.below (P := fun k => k = Y.heap.size) ((Below.refl _ _).alloc (Nat.le_refl _) _)).trans z3
    exact ho2.tq2 t (fun k hk => by omega)
  · have : Below w.heap.size w (Y.alloc zeroO) := by
      have h6 : Below w.heap.size w Y := ⟨h5.os.trans (hX.alloc hsz _).os, h5.tape.trans (hX.alloc hsz _).tape, h5.output.trans (hX.alloc hsz _).output, by omega, fun k hk => (h5.block k (by simp; omega) (fun e => by injection e with e; omega)).trans ((hX.alloc hsz _).block k hk)⟩
      exact h6.alloc (by omega) _
    exact Below.of_tq this z3 fun k hk => by omega
theorem conv4 {w X : World} {b off len cap : Nat} {f : Nat → Int} (h : Src w (some ⟨b, off, none⟩) len cap f) (hX : Below w.heap.size w X) (hl : 4 ≤ len) : (convert 22 9 (.slice (some ⟨b, off, none⟩) 4 cap)).run Try.prog X = .ok (.string (strOfNums (bl f 4))) X := conv_rd cap ((h.below hX).less 4 hl)
def PostC (w : World) (f : Nat → Int) (len : Nat) (e : Ending) (w' : World) : Prop := ∃ c : Oc, e = .returned (.tuple #[.agg c.cells, .int .i64 (decR f len).1, .int .i64 (decR f len).2]) ∧ Below w.heap.size w w' ∧ ((decR f len).2 ≠ 0 → c = Oc.zero) ∧ ((decR f len).2 = 0 → ∃ B, w.heap.size < B ∧ ObAt w' B c (objS f (len - 4) ⟨4, false⟩).1)
theorem postC_bad {w w' : World} {f : Nat → Int} {len : Nat} {p r : Int} (h : decR f len = (p, r)) (hr : r ≠ 0) (hb : Below w.heap.size w w') : PostC w f len (.returned (.tuple #[.agg Oc.zero.cells, .int .i64 p, .int .i64 r])) w' := ⟨Oc.zero, by rw [h], hb, fun _ => rfl, fun e => by rw [h] at e; exact absurd e hr⟩
set_option maxHeartbeats 4000000 in
set_option maxRecDepth 20000 in
theorem decode_long (w : World) (a : Option Addr) (len cap : Nat) (f : Nat → Int) (h : Src w a len cap f) (hl : 1048576 < len) : Calls Try.prog 5 #[.slice a len cap] w (PostC w f len) := by
  have hR : decR f len = (0, 71) := by unfold decR; rw [if_neg (by omega)]
  have hfit := h.fit
  obtain ⟨Z, hst, hz, ht⟩ := storeO_run (zero_at w) Oc.zero
  have HB : Hid (Below w.heap.size w Z) := Below.of_tq (by go_grown) ht fun k hk => by omega
  have d1 : decide ((1048576 : Int) < (len : Int)) = true := decide_eq_true (by omega)
  have d2 : 1048576 < len := hl
  clear h
  unfold zeroO at hst
  simp only [Oc.cells, Oc.zero] at hst
  go_enter Try.func5, Try.ntmps5
  go_wp2
  refine ret_cell_tmp2 (p := 2) (q := 3) (r := 4) rfl rfl (loadO_run hz) rfl ?_
  exact postC_bad hR (by omega) HB.out
set_option maxHeartbeats 4000000 in
set_option maxRecDepth 20000 in
theorem decode_short (w : World) (a : Option Addr) (len cap : Nat) (f : Nat → Int) (h : Src w a len cap f) (hl : len < 8) : Calls Try.prog 5 #[.slice a len cap] w (PostC w f len) := by
  have hR : decR f len = (0, 71) := by unfold decR; rw [if_neg (by omega)]
  obtain ⟨Z, hst, hz, ht⟩ := storeO_run (zero_at w) Oc.zero
  have HB : Hid (Below w.heap.size w Z) := Below.of_tq (by go_grown) ht fun k hk => by omega
  have d1 : decide ((1048576 : Int) < (len : Int)) = false := decide_eq_false (by omega)
  have d2 : ¬ 1048576 < len := by omega
  have d3 : decide ((len : Int) < 8) = true := decide_eq_true (by omega)
  have d4 : len < 8 := hl
  clear h
  unfold zeroO at hst
  simp only [Oc.cells, Oc.zero] at hst
  go_enter Try.func5, Try.ntmps5
  go_wp2
  refine ret_cell_tmp2 (p := 2) (q := 3) (r := 4) rfl rfl (loadO_run hz) rfl ?_
  exact postC_bad hR (by omega) HB.out
theorem Src.some {w : World} {a : Option Addr} {len cap : Nat} {f : Nat → Int} (h : Src w a len cap f) (h0 : 0 < len) : ∃ b off, a = some ⟨b, off, none⟩ := by
  rcases h.rd.2 with e | ⟨b, off, e, _⟩
  · omega
  · exact ⟨b, off, e⟩
set_option maxHeartbeats 4000000 in
set_option maxRecDepth 20000 in
theorem decode_mark (w : World) (b off len cap : Nat) (f : Nat → Int) (h : Src w (some ⟨b, off, none⟩) len cap f) (hc : len ≤ cap) (hl : 8 ≤ len) (hl2 : len ≤ 1048576) (hm : strOfNums (bl f 4) ≠ markS) : Calls Try.prog 5 #[.slice (some ⟨b, off, none⟩) len cap] w (PostC w f len) := by
  have hR : decR f len = (0, 71) := by unfold decR; rw [if_neg (fun e => hm e.2.2)]
  obtain ⟨Z, hst, hz, ht⟩ := storeO_run (zero_at w) Oc.zero
  have HB : Hid (Below w.heap.size w Z) := Below.of_tq (by go_grown) ht fun k hk => by omega
  have d1 : decide ((1048576 : Int) < (len : Int)) = false := decide_eq_false (by omega)
  have d2 : ¬ 1048576 < len := by omega
  have d3 : decide ((len : Int) < 8) = false := decide_eq_false (by omega)
  have d4 : ¬ len < 8 := by omega
  have d5 : (4 : Int) ≤ (cap : Int) := by omega
  have d6 : 4 ≤ cap := by omega
  have hv := conv4 h (X := w.alloc zeroO) (by go_grown) (by omega)
  unfold markS at hm
  generalize strOfNums (bl f 4) = S4 at hv hm
  have hm2 : (S4.toList == [67, 82, 79, 49]) = false := by rw [Lib.toList_data]; simp only [beq_eq_false_iff_ne, ne_eq]; exact fun e => hm (by cases S4 with | mk d => cases d with | mk l => exact congrArg (fun t => ByteArray.mk ⟨t⟩) e)
  clear h
  unfold zeroO at hst hv
  simp only [Oc.cells, Oc.zero] at hst
  go_enter Try.func5, Try.ntmps5
  go_wp2
  refine ret_cell_tmp2 (p := 2) (q := 3) (r := 4) rfl rfl (loadO_run hz) rfl ?_
  exact postC_bad hR (by omega) HB.out
set_option maxHeartbeats 4000000 in
set_option maxRecDepth 20000 in
theorem decode_sum (w : World) (b off e cap : Nat) (f : Nat → Int) (h : Src w (some ⟨b, off, none⟩) (e + 4) cap f) (hc : e + 4 ≤ cap) (hl : 4 ≤ e) (hl2 : e ≤ 1048572) (hm : strOfNums (bl f 4) = markS) (hs : ¬ gotW (e + 4) f (e : Int) = fnv f e) : Calls Try.prog 5 #[.slice (some ⟨b, off, none⟩) ((e + 4 : Nat)) cap] w (PostC w f (e + 4)) := by
  have hR : decR f (e + 4) = ((e : Int), 72) := by unfold decR; rw [if_pos ⟨by omega, by omega, hm⟩, Nat.add_sub_cancel, if_neg hs]
  have d1 : decide ((1048576 : Int) < ((e + 4 : Nat) : Int)) = false := decide_eq_false (by omega)
  have d2 : ¬ 1048576 < e + 4 := by omega
  have d3 : decide (((e + 4 : Nat) : Int) < 8) = false := decide_eq_false (by omega)
  have d4 : ¬ e + 4 < 8 := by omega
  have d5 : (4 : Int) ≤ (cap : Int) := by omega
  have d6 : 4 ≤ cap := by omega
  have d7 : (e : Int) ≤ (cap : Int) := by omega
  have d8 : e ≤ cap := by omega
  have d9 : IntKind.i64.wrap (((e + 4 : Nat) : Int) - 4) = (e : Int) := by rw [IntWalk.i64_left, IntWalk.wrap64_in] <;> omega
  have e1 : decide ((1048576 : Int) < (e : Int) + 4) = false := decide_eq_false (by omega)
  have e3 : decide ((e : Int) + 4 < 8) = false := decide_eq_false (by omega)
  have e9 : IntKind.i64.wrap (e : Int) = (e : Int) := by rw [IntWalk.i64_left, IntWalk.wrap64_in] <;> omega
  have e8 : (0 : Int) ≤ (e : Int) := by omega
  have hv := conv4 h (X := w.alloc zeroO) (by go_grown) (by omega)
  rw [hm] at hv
  have T0 : Hid (Below w.heap.size w (w.alloc zeroO) ∧ OAt (w.alloc zeroO) w.heap.size Oc.zero) := ⟨by go_grown, zero_at w⟩
  have GT : Hid (∀ X, Below w.heap.size w X ∧ OAt X w.heap.size Oc.zero → Calls Try.prog 10 #[.slice (some ⟨b, off, none⟩) ((e + 4 : Nat)) cap, .int .i64 (e : Int)] X fun en Y => en = .returned (.tuple #[.int .u32 (gotW (e + 4) f (e : Int)), .bool (fits (e + 4) (e : Int))]) ∧ ∃ Z, (storeO ⟨w.heap.size, 0, none⟩ (.agg Oc.zero.cells)).run Try.prog Y = .ok () Z ∧ Hid (OAt Z w.heap.size Oc.zero ∧ Below w.heap.size w Z) ∧ Hid (Below w.heap.size w Y)) := fun X hX => (get_any (some ⟨b, off, none⟩) (e + 4) cap f e X (h.below hX.1).rd).mono fun en Y hh => by
    have hb2 := hX.1.trans (hh.2.mono hX.1.size)
    obtain ⟨Z, z1, z2, z3⟩ := storeO_run (o := Oc.zero) ((hh.2.block _ hX.2.lt).trans hX.2) Oc.zero
    exact ⟨hh.1, Z, z1, ⟨z2, Below.of_tq hb2 z3 fun k hk => by omega⟩, hb2⟩
  have SM : Hid (∀ X, Below w.heap.size w X → Calls Try.prog 11 #[.slice (some ⟨b, off, none⟩) e cap] X fun en Y => en = .returned (.int .u32 (fnv f e)) ∧ Y = X) := fun X hX => sum_any _ e cap f X ((h.below hX).less e (by omega))
  generalize gotW (e + 4) f (e : Int) = gw at *
  generalize fnv f e = fv at *
  generalize fits (e + 4) (e : Int) = ft at *
  have n1 : (gw != fv) = true := by simp; exact hs
  clear h hs hm
  unfold zeroO at T0 hv
  simp only [Oc.cells, Oc.zero] at GT
  unfold markS at hv
  go_enter Try.func5, Try.ntmps5
  go_wp2_with (first
    | (go_at_call 10; refine (GT.out _ T0.out).mono ?_; rintro en w1 ⟨rfl, Z, hst, HZ, HB⟩)
    | (go_at_call 11; refine (SM.out _ HB.out).mono ?_; rintro en w2 ⟨rfl, hw⟩; rw [hw]; clear hw))
  refine ret_cell_tmp2 (p := 2) (q := 3) (r := 4) rfl rfl (loadO_run HZ.out.1) rfl ?_
  exact postC_bad hR (by omega) HZ.out.2
end Go.Proofs.Ytepgifapepaheaa

namespace Go.Proofs.Ytepgifapepaheaa
set_option linter.unusedVariables false
set_option linter.unusedSimpArgs false
open Go.ChangeShapes Go.WideShapes Go.ChangeAt Go.RowKit
attribute [local go_sem ↓] loadO_seal storeO_seal

theorem Fine.few {o : Ob} (h : Fine o) : Few o := by
  refine ⟨?_, ?_, ?_, ?_, ?_, ?_, ?_, ?_, ?_, ?_, ?_, ?_, ?_, ?_, ?_⟩
  · have := h.im.1; omega
  · have := h.co; omega
  · have := h.pr.1; omega
  · have := h.na.1; have := h.pr.1; omega
  · have := h.ex; have := h.pr.1; omega
  · have := h.va.1; omega
  · have := h.sh.1; omega
  · have := h.st.1; omega
  · have := h.ds.1; omega
  · intro x hx; have := (h.ds.2 x hx).2.2.1; omega
  · have := h.fx.1; omega
  · have := h.nm; omega
  · intro x hx; have := h.im.2 x hx; omega
  · intro x hx; have := h.na.2 x hx; omega
  · intro x hx; have := h.st.2 x hx; omega
theorem De.drew {w X : World} {be ga : Nat} {a : Option Addr} {e cap : Nat} {f : Nat → Int} {c : Oc} {o : Ob} {s : St} {B : Nat} (h : De w X be ga a e cap f c o s B) : De w X.drew be ga a e cap f c o s B := h.below (Below.refl _ _).drew
theorem De.as {w X : World} {be ga : Nat} {a : Option Addr} {e cap : Nat} {f : Nat → Int} {c : Oc} {o oo : Ob} {s : St} {B : Nat} (h : De w X be ga a e cap f c o s B) (ho : o = oo) : De w X be ga a e cap f c oo s B := ho ▸ h
/-- The answer is put into its cell. -/
theorem De.put {w X : World} {be ga : Nat} {a : Option Addr} {e cap : Nat} {f : Nat → Int} {c : Oc} {o : Ob} {s : St} {B : Nat} (h : De w X be ga a e cap f c o s B) (c2 : Oc) : ∃ Z, (storeO ⟨w.heap.size, 0, none⟩ (.agg c2.cells)).run Try.prog X = .ok () Z ∧ Z.cell? ⟨be, 1, none⟩ = some (.int .i64 (s.p : Int)) ∧ Hid (OAt Z w.heap.size c2 ∧ Below w.heap.size w Z ∧ ObAt Z B c o) := by
  obtain ⟨Z, z1, z2, z3⟩ := storeO_run h.t2 c2
  have lo := h.lo
  refine ⟨Z, z1, (World.cell?_of_block (a := ⟨be, 1, none⟩) (z3.blk be h.rd.bl (by omega))).trans h.rd.c1, z2, Below.of_tq h.bel z3 (fun k hk => by omega), h.ob.tq z3 (fun k hk => by omega)⟩
set_option maxHeartbeats 8000000 in
set_option maxRecDepth 20000 in
theorem decode_stuck (w : World) (b off e cap : Nat) (f : Nat → Int) (h : Src w (some ⟨b, off, none⟩) (e + 4) cap f) (hc : e + 4 ≤ cap) (hl : 4 ≤ e) (hl2 : e ≤ 1048572) (hm : strOfNums (bl f 4) = markS) (hs : gotW (e + 4) f (e : Int) = fnv f e) (hst0 : (objS f e ⟨4, false⟩).2.st = true) : Calls Try.prog 5 #[.slice (some ⟨b, off, none⟩) ((e + 4 : Nat)) cap] w (PostC w f (e + 4)) := by
  have hR : decR f (e + 4) = (((objS f e ⟨4, false⟩).2.p : Int), 71) := by unfold decR; rw [if_pos ⟨by omega, by omega, hm⟩, Nat.add_sub_cancel, if_pos hs, if_pos (Or.inl hst0)]
  have d1 : decide ((1048576 : Int) < ((e + 4 : Nat) : Int)) = false := decide_eq_false (by omega)
  have d2 : ¬ 1048576 < e + 4 := by omega
  have d3 : decide (((e + 4 : Nat) : Int) < 8) = false := decide_eq_false (by omega)
  have d4 : ¬ e + 4 < 8 := by omega
  have d5 : (4 : Int) ≤ (cap : Int) := by omega
  have d6 : 4 ≤ cap := by omega
  have d7 : (e : Int) ≤ (cap : Int) := by omega
  have d8 : e ≤ cap := by omega
  have d9 : IntKind.i64.wrap (((e + 4 : Nat) : Int) - 4) = (e : Int) := by rw [IntWalk.i64_left, IntWalk.wrap64_in] <;> omega
  have e1 : decide ((1048576 : Int) < (e : Int) + 4) = false := decide_eq_false (by omega)
  have e3 : decide ((e : Int) + 4 < 8) = false := decide_eq_false (by omega)
  have e9 : IntKind.i64.wrap (e : Int) = (e : Int) := by rw [IntWalk.i64_left, IntWalk.wrap64_in] <;> omega
  have e8 : (0 : Int) ≤ (e : Int) := by omega
  have hv := conv4 h (X := w.alloc zeroO) (by go_grown) (by omega)
  rw [hm] at hv
  have T0 : Hid (Below w.heap.size w (w.alloc zeroO) ∧ OAt (w.alloc zeroO) w.heap.size Oc.zero) := ⟨by go_grown, zero_at w⟩
  have GT : Hid (∀ X, Below w.heap.size w X ∧ OAt X w.heap.size Oc.zero → Calls Try.prog 10 #[.slice (some ⟨b, off, none⟩) ((e + 4 : Nat)) cap, .int .i64 (e : Int)] X fun en Y => en = .returned (.tuple #[.int .u32 (fnv f e), .bool (fits (e + 4) (e : Int))]) ∧ Below w.heap.size w Y ∧ OAt Y w.heap.size Oc.zero) := fun X hX => (get_any (some ⟨b, off, none⟩) (e + 4) cap f e X (h.below hX.1).rd).mono fun en Y hh => ⟨by rw [← hs]; exact hh.1, hX.1.trans (hh.2.mono hX.1.size), (hh.2.block _ hX.2.lt).trans hX.2⟩
  have SM : Hid (∀ X, Below w.heap.size w X ∧ OAt X w.heap.size Oc.zero → Calls Try.prog 11 #[.slice (some ⟨b, off, none⟩) e cap] X fun en Y => en = .returned (.int .u32 (fnv f e)) ∧ Y = X) := fun X hX => sum_any _ e cap f X ((h.below hX.1).less e (by omega))
  have ST : Hid (∀ X, Below w.heap.size w X ∧ OAt X w.heap.size Oc.zero → Calls Try.prog 12 #[.pointer (some ⟨X.heap.size, 0, none⟩)] (X.alloc (.cells #[.slice (some ⟨b, off, none⟩) e cap, .int .i64 4, .bool false] 46)) fun en Y => ∃ c o Z, en = .returned (.agg (Oc.cells c)) ∧ (storeO ⟨Y.heap.size, 0, none⟩ (.agg c.cells)).run Try.prog (Y.alloc zeroO) = .ok () Z ∧ Hid (De w Z X.heap.size Y.heap.size (some ⟨b, off, none⟩) e cap f c o (objS f e ⟨4, false⟩).2 (X.heap.size + 5) ∧ ((objS f e ⟨4, false⟩).2.st = false → o = (objS f e ⟨4, false⟩).1))) := fun X hX => stage w X b off e cap f hX.1 hX.2 h hc hl hl2
  have hoct : Oct f (e + 4) := fun i hi => by
    rcases h.rd.2 with h0 | ⟨b', off', _, h2⟩
    · omega
    · exact (h2 i hi).2
  generalize fnv f e = fv at *
  generalize fits (e + 4) (e : Int) = ft at *
  have n1 : (fv != fv) = false := by simp
  clear h hs hm
  unfold zeroO at T0 hv ST
  unfold markS at hv
  generalize (objS f e ⟨4, false⟩).1 = oo at *
  generalize (objS f e ⟨4, false⟩).2 = ss at *
  obtain ⟨sp, sst⟩ := ss
  simp only at *
  subst hst0
  go_enter Try.func5, Try.ntmps5
  go_wp2_with (first
    | (go_at_call 10; refine (GT.out _ T0.out).mono ?_; rintro en w1 ⟨rfl, hb1⟩; have H1 := hid_of hb1; clear hb1)
    | (go_at_call 11; refine (SM.out _ H1.out).mono ?_; rintro en w2 ⟨rfl, hw⟩; rw [hw]; clear hw)
    | (go_at_call 12; refine (ST.out _ H1.out).mono ?_; rintro en w3 ⟨c, o, Z, rfl, hst, HD⟩; have k1 := HD.out.1.rd.c1; have k2 := HD.out.1.rd.c2; obtain ⟨Z2, z1, z2, HZ⟩ := HD.out.1.drew.put Oc.zero; simp only [Oc.cells, Oc.zero] at z1))
  go_region
  all_goals
    go_wp2_with fail
    refine ret_cell_tmp2 (p := 2) (q := 3) (r := 4) rfl rfl (loadO_run HZ.out.1) rfl ?_
    exact postC_bad hR (by omega) HZ.out.2.1
set_option maxHeartbeats 8000000 in
set_option maxRecDepth 20000 in
theorem decode_less (w : World) (b off e cap : Nat) (f : Nat → Int) (h : Src w (some ⟨b, off, none⟩) (e + 4) cap f) (hc : e + 4 ≤ cap) (hl : 4 ≤ e) (hl2 : e ≤ 1048572) (hm : strOfNums (bl f 4) = markS) (hs : gotW (e + 4) f (e : Int) = fnv f e) (hst0 : (objS f e ⟨4, false⟩).2.st = false) (hp0 : (objS f e ⟨4, false⟩).2.p < e) : Calls Try.prog 5 #[.slice (some ⟨b, off, none⟩) ((e + 4 : Nat)) cap] w (PostC w f (e + 4)) := by
  have hR : decR f (e + 4) = (((objS f e ⟨4, false⟩).2.p : Int), 71) := by unfold decR; rw [if_pos ⟨by omega, by omega, hm⟩, Nat.add_sub_cancel, if_pos hs, if_pos (Or.inr hp0)]
  have d1 : decide ((1048576 : Int) < ((e + 4 : Nat) : Int)) = false := decide_eq_false (by omega)
  have d2 : ¬ 1048576 < e + 4 := by omega
  have d3 : decide (((e + 4 : Nat) : Int) < 8) = false := decide_eq_false (by omega)
  have d4 : ¬ e + 4 < 8 := by omega
  have d5 : (4 : Int) ≤ (cap : Int) := by omega
  have d6 : 4 ≤ cap := by omega
  have d7 : (e : Int) ≤ (cap : Int) := by omega
  have d8 : e ≤ cap := by omega
  have d9 : IntKind.i64.wrap (((e + 4 : Nat) : Int) - 4) = (e : Int) := by rw [IntWalk.i64_left, IntWalk.wrap64_in] <;> omega
  have e1 : decide ((1048576 : Int) < (e : Int) + 4) = false := decide_eq_false (by omega)
  have e3 : decide ((e : Int) + 4 < 8) = false := decide_eq_false (by omega)
  have e9 : IntKind.i64.wrap (e : Int) = (e : Int) := by rw [IntWalk.i64_left, IntWalk.wrap64_in] <;> omega
  have e8 : (0 : Int) ≤ (e : Int) := by omega
  have hv := conv4 h (X := w.alloc zeroO) (by go_grown) (by omega)
  rw [hm] at hv
  have T0 : Hid (Below w.heap.size w (w.alloc zeroO) ∧ OAt (w.alloc zeroO) w.heap.size Oc.zero) := ⟨by go_grown, zero_at w⟩
  have GT : Hid (∀ X, Below w.heap.size w X ∧ OAt X w.heap.size Oc.zero → Calls Try.prog 10 #[.slice (some ⟨b, off, none⟩) ((e + 4 : Nat)) cap, .int .i64 (e : Int)] X fun en Y => en = .returned (.tuple #[.int .u32 (fnv f e), .bool (fits (e + 4) (e : Int))]) ∧ Below w.heap.size w Y ∧ OAt Y w.heap.size Oc.zero) := fun X hX => (get_any (some ⟨b, off, none⟩) (e + 4) cap f e X (h.below hX.1).rd).mono fun en Y hh => ⟨by rw [← hs]; exact hh.1, hX.1.trans (hh.2.mono hX.1.size), (hh.2.block _ hX.2.lt).trans hX.2⟩
  have SM : Hid (∀ X, Below w.heap.size w X ∧ OAt X w.heap.size Oc.zero → Calls Try.prog 11 #[.slice (some ⟨b, off, none⟩) e cap] X fun en Y => en = .returned (.int .u32 (fnv f e)) ∧ Y = X) := fun X hX => sum_any _ e cap f X ((h.below hX.1).less e (by omega))
  have ST : Hid (∀ X, Below w.heap.size w X ∧ OAt X w.heap.size Oc.zero → Calls Try.prog 12 #[.pointer (some ⟨X.heap.size, 0, none⟩)] (X.alloc (.cells #[.slice (some ⟨b, off, none⟩) e cap, .int .i64 4, .bool false] 46)) fun en Y => ∃ c o Z, en = .returned (.agg (Oc.cells c)) ∧ (storeO ⟨Y.heap.size, 0, none⟩ (.agg c.cells)).run Try.prog (Y.alloc zeroO) = .ok () Z ∧ Hid (De w Z X.heap.size Y.heap.size (some ⟨b, off, none⟩) e cap f c o (objS f e ⟨4, false⟩).2 (X.heap.size + 5) ∧ ((objS f e ⟨4, false⟩).2.st = false → o = (objS f e ⟨4, false⟩).1))) := fun X hX => stage w X b off e cap f hX.1 hX.2 h hc hl hl2
  have hoct : Oct f (e + 4) := fun i hi => by
    rcases h.rd.2 with h0 | ⟨b', off', _, h2⟩
    · omega
    · exact (h2 i hi).2
  generalize fnv f e = fv at *
  generalize fits (e + 4) (e : Int) = ft at *
  have n1 : (fv != fv) = false := by simp
  clear h hs hm
  unfold zeroO at T0 hv ST
  unfold markS at hv
  generalize (objS f e ⟨4, false⟩).1 = oo at *
  generalize (objS f e ⟨4, false⟩).2 = ss at *
  obtain ⟨sp, sst⟩ := ss
  simp only at *
  subst hst0
  have p1 : decide ((sp : Int) < (e : Int)) = true := decide_eq_true (by omega)
  have p2 : sp < e := hp0
  go_enter Try.func5, Try.ntmps5
  go_wp2_with (first
    | (go_at_call 10; refine (GT.out _ T0.out).mono ?_; rintro en w1 ⟨rfl, hb1⟩; have H1 := hid_of hb1; clear hb1)
    | (go_at_call 11; refine (SM.out _ H1.out).mono ?_; rintro en w2 ⟨rfl, hw⟩; rw [hw]; clear hw)
    | (go_at_call 12; refine (ST.out _ H1.out).mono ?_; rintro en w3 ⟨c, o, Z, rfl, hst, HD⟩; have k1 := HD.out.1.rd.c1; have k2 := HD.out.1.rd.c2; obtain ⟨Z2, z1, z2, HZ⟩ := HD.out.1.drew.put Oc.zero; simp only [Oc.cells, Oc.zero] at z1))
  go_region
  all_goals
    go_wp2_with fail
    refine ret_cell_tmp2 (p := 2) (q := 3) (r := 4) rfl rfl (loadO_run HZ.out.1) rfl ?_
    exact postC_bad hR (by omega) HZ.out.2.1
set_option maxHeartbeats 8000000 in
set_option maxRecDepth 20000 in
theorem decode_wrong (w : World) (b off e cap : Nat) (f : Nat → Int) (h : Src w (some ⟨b, off, none⟩) (e + 4) cap f) (hc : e + 4 ≤ cap) (hl : 4 ≤ e) (hl2 : e ≤ 1048572) (hm : strOfNums (bl f 4) = markS) (hs : gotW (e + 4) f (e : Int) = fnv f e) (hst0 : (objS f e ⟨4, false⟩).2.st = false) (hp0 : ¬ (objS f e ⟨4, false⟩).2.p < e) (hr0 : rightB (objS f e ⟨4, false⟩).1 = false) : Calls Try.prog 5 #[.slice (some ⟨b, off, none⟩) ((e + 4 : Nat)) cap] w (PostC w f (e + 4)) := by
  have hR : decR f (e + 4) = (0, 70) := by unfold decR; rw [if_pos ⟨by omega, by omega, hm⟩, Nat.add_sub_cancel, if_pos hs, if_neg (by rw [hst0]; simp; omega), if_neg (by rw [hr0]; simp)]
  have d1 : decide ((1048576 : Int) < ((e + 4 : Nat) : Int)) = false := decide_eq_false (by omega)
  have d2 : ¬ 1048576 < e + 4 := by omega
  have d3 : decide (((e + 4 : Nat) : Int) < 8) = false := decide_eq_false (by omega)
  have d4 : ¬ e + 4 < 8 := by omega
  have d5 : (4 : Int) ≤ (cap : Int) := by omega
  have d6 : 4 ≤ cap := by omega
  have d7 : (e : Int) ≤ (cap : Int) := by omega
  have d8 : e ≤ cap := by omega
  have d9 : IntKind.i64.wrap (((e + 4 : Nat) : Int) - 4) = (e : Int) := by rw [IntWalk.i64_left, IntWalk.wrap64_in] <;> omega
  have e1 : decide ((1048576 : Int) < (e : Int) + 4) = false := decide_eq_false (by omega)
  have e3 : decide ((e : Int) + 4 < 8) = false := decide_eq_false (by omega)
  have e9 : IntKind.i64.wrap (e : Int) = (e : Int) := by rw [IntWalk.i64_left, IntWalk.wrap64_in] <;> omega
  have e8 : (0 : Int) ≤ (e : Int) := by omega
  have hv := conv4 h (X := w.alloc zeroO) (by go_grown) (by omega)
  rw [hm] at hv
  have T0 : Hid (Below w.heap.size w (w.alloc zeroO) ∧ OAt (w.alloc zeroO) w.heap.size Oc.zero) := ⟨by go_grown, zero_at w⟩
  have GT : Hid (∀ X, Below w.heap.size w X ∧ OAt X w.heap.size Oc.zero → Calls Try.prog 10 #[.slice (some ⟨b, off, none⟩) ((e + 4 : Nat)) cap, .int .i64 (e : Int)] X fun en Y => en = .returned (.tuple #[.int .u32 (fnv f e), .bool (fits (e + 4) (e : Int))]) ∧ Below w.heap.size w Y ∧ OAt Y w.heap.size Oc.zero) := fun X hX => (get_any (some ⟨b, off, none⟩) (e + 4) cap f e X (h.below hX.1).rd).mono fun en Y hh => ⟨by rw [← hs]; exact hh.1, hX.1.trans (hh.2.mono hX.1.size), (hh.2.block _ hX.2.lt).trans hX.2⟩
  have SM : Hid (∀ X, Below w.heap.size w X ∧ OAt X w.heap.size Oc.zero → Calls Try.prog 11 #[.slice (some ⟨b, off, none⟩) e cap] X fun en Y => en = .returned (.int .u32 (fnv f e)) ∧ Y = X) := fun X hX => sum_any _ e cap f X ((h.below hX.1).less e (by omega))
  have ST : Hid (∀ X, Below w.heap.size w X ∧ OAt X w.heap.size Oc.zero → Calls Try.prog 12 #[.pointer (some ⟨X.heap.size, 0, none⟩)] (X.alloc (.cells #[.slice (some ⟨b, off, none⟩) e cap, .int .i64 4, .bool false] 46)) fun en Y => ∃ c o Z, en = .returned (.agg (Oc.cells c)) ∧ (storeO ⟨Y.heap.size, 0, none⟩ (.agg c.cells)).run Try.prog (Y.alloc zeroO) = .ok () Z ∧ Hid (De w Z X.heap.size Y.heap.size (some ⟨b, off, none⟩) e cap f c o (objS f e ⟨4, false⟩).2 (X.heap.size + 5) ∧ ((objS f e ⟨4, false⟩).2.st = false → o = (objS f e ⟨4, false⟩).1))) := fun X hX => stage w X b off e cap f hX.1 hX.2 h hc hl hl2
  have hoct : Oct f (e + 4) := fun i hi => by
    rcases h.rd.2 with h0 | ⟨b', off', _, h2⟩
    · omega
    · exact (h2 i hi).2
  generalize fnv f e = fv at *
  generalize fits (e + 4) (e : Int) = ft at *
  have n1 : (fv != fv) = false := by simp
  clear h hs hm
  unfold zeroO at T0 hv
  unfold markS at hv
  have SU : Hid (∀ X, Below w.heap.size w X ∧ OAt X w.heap.size Oc.zero → Calls Try.prog 12 #[.pointer (some ⟨X.heap.size, 0, none⟩)] (X.alloc (.cells #[.slice (some ⟨b, off, none⟩) e cap, .int .i64 4, .bool false] 46)) fun en Y => ∃ c Z, en = .returned (.agg (Oc.cells c)) ∧ (storeO ⟨Y.heap.size, 0, none⟩ (.agg c.cells)).run Try.prog (Y.alloc zeroO) = .ok () Z ∧ Hid (De w Z X.heap.size Y.heap.size (some ⟨b, off, none⟩) e cap f c (objS f e ⟨4, false⟩).1 (objS f e ⟨4, false⟩).2 (X.heap.size + 5))) := fun X hX => (ST.out X hX).mono fun en Y hh => by
    obtain ⟨c, o, Z, h1, h2, h3⟩ := hh
    exact ⟨c, Z, h1, h2, De.as h3.out.1 (h3.out.2 hst0)⟩
  clear ST
  unfold zeroO at SU
  have FI := (fine_read (f := f) (len := e) (fun i hi => hoct i (by omega)) (by omega) ⟨4, false⟩ hst0).few
  have OB : Hid (∀ X B c, ObAt X B c (objS f e ⟨4, false⟩).1 → ObAt X B c (objS f (e + 4 - 4) ⟨4, false⟩).1) := fun X B c hX => by rw [Nat.add_sub_cancel]; exact hX
  have RG : Hid (∀ X B c, ObAt X B c (objS f e ⟨4, false⟩).1 → Calls Try.prog 13 #[.agg c.cells] X fun en Y => en = .returned (.bool false) ∧ Below X.heap.size X Y) := fun X B c hX => (right_any X c _ (hX.rd FI)).mono fun en Y hh => ⟨by rw [← hr0]; exact hh.1, hh.2⟩
  generalize (objS f e ⟨4, false⟩).1 = oo at *
  generalize (objS f e ⟨4, false⟩).2 = ss at *
  obtain ⟨sp, sst⟩ := ss
  simp only at *
  subst hst0
  have p1 : decide ((sp : Int) < (e : Int)) = false := decide_eq_false (by omega)
  have p2 : ¬ sp < e := hp0
  clear hr0 FI
  go_enter Try.func5, Try.ntmps5
  go_wp2_with (first
    | (go_at_call 10; refine (GT.out _ T0.out).mono ?_; rintro en w1 ⟨rfl, hb1⟩; have H1 := hid_of hb1; clear hb1)
    | (go_at_call 11; refine (SM.out _ H1.out).mono ?_; rintro en w2 ⟨rfl, hw⟩; rw [hw]; clear hw)
    | (go_at_call 12; refine (SU.out _ H1.out).mono ?_; rintro en w3 ⟨c, Z, rfl, hst, DD⟩; have k1 := DD.out.rd.c1; have k2 := DD.out.rd.c2; have lo1 := loadO_run DD.out.og)
    | (go_at_call 13; refine (RG.out _ _ c DD.out.ob).mono ?_; rintro en w5 ⟨rfl, hb5⟩; have D5 := hid_of (DD.out.below hb5); have lo5 := loadO_run D5.out.og; obtain ⟨Z2, z1, z2, HZ⟩ := D5.out.put Oc.zero; simp only [Oc.cells, Oc.zero] at z1; clear hb5))
  refine ret_cell_tmp2 (p := 2) (q := 3) (r := 4) rfl rfl (loadO_run HZ.out.1) rfl ?_
  exact postC_bad hR (by omega) HZ.out.2.1
set_option maxHeartbeats 8000000 in
set_option maxRecDepth 20000 in
theorem decode_ok (w : World) (b off e cap : Nat) (f : Nat → Int) (h : Src w (some ⟨b, off, none⟩) (e + 4) cap f) (hc : e + 4 ≤ cap) (hl : 4 ≤ e) (hl2 : e ≤ 1048572) (hm : strOfNums (bl f 4) = markS) (hs : gotW (e + 4) f (e : Int) = fnv f e) (hst0 : (objS f e ⟨4, false⟩).2.st = false) (hp0 : ¬ (objS f e ⟨4, false⟩).2.p < e) (hr0 : rightB (objS f e ⟨4, false⟩).1 = true) : Calls Try.prog 5 #[.slice (some ⟨b, off, none⟩) ((e + 4 : Nat)) cap] w (PostC w f (e + 4)) := by
  have hR : decR f (e + 4) = (0, 0) := by unfold decR; rw [if_pos ⟨by omega, by omega, hm⟩, Nat.add_sub_cancel, if_pos hs, if_neg (by rw [hst0]; simp; omega), if_pos hr0]
  have d1 : decide ((1048576 : Int) < ((e + 4 : Nat) : Int)) = false := decide_eq_false (by omega)
  have d2 : ¬ 1048576 < e + 4 := by omega
  have d3 : decide (((e + 4 : Nat) : Int) < 8) = false := decide_eq_false (by omega)
  have d4 : ¬ e + 4 < 8 := by omega
  have d5 : (4 : Int) ≤ (cap : Int) := by omega
  have d6 : 4 ≤ cap := by omega
  have d7 : (e : Int) ≤ (cap : Int) := by omega
  have d8 : e ≤ cap := by omega
  have d9 : IntKind.i64.wrap (((e + 4 : Nat) : Int) - 4) = (e : Int) := by rw [IntWalk.i64_left, IntWalk.wrap64_in] <;> omega
  have e1 : decide ((1048576 : Int) < (e : Int) + 4) = false := decide_eq_false (by omega)
  have e3 : decide ((e : Int) + 4 < 8) = false := decide_eq_false (by omega)
  have e9 : IntKind.i64.wrap (e : Int) = (e : Int) := by rw [IntWalk.i64_left, IntWalk.wrap64_in] <;> omega
  have e8 : (0 : Int) ≤ (e : Int) := by omega
  have hv := conv4 h (X := w.alloc zeroO) (by go_grown) (by omega)
  rw [hm] at hv
  have T0 : Hid (Below w.heap.size w (w.alloc zeroO) ∧ OAt (w.alloc zeroO) w.heap.size Oc.zero) := ⟨by go_grown, zero_at w⟩
  have GT : Hid (∀ X, Below w.heap.size w X ∧ OAt X w.heap.size Oc.zero → Calls Try.prog 10 #[.slice (some ⟨b, off, none⟩) ((e + 4 : Nat)) cap, .int .i64 (e : Int)] X fun en Y => en = .returned (.tuple #[.int .u32 (fnv f e), .bool (fits (e + 4) (e : Int))]) ∧ Below w.heap.size w Y ∧ OAt Y w.heap.size Oc.zero) := fun X hX => (get_any (some ⟨b, off, none⟩) (e + 4) cap f e X (h.below hX.1).rd).mono fun en Y hh => ⟨by rw [← hs]; exact hh.1, hX.1.trans (hh.2.mono hX.1.size), (hh.2.block _ hX.2.lt).trans hX.2⟩
  have SM : Hid (∀ X, Below w.heap.size w X ∧ OAt X w.heap.size Oc.zero → Calls Try.prog 11 #[.slice (some ⟨b, off, none⟩) e cap] X fun en Y => en = .returned (.int .u32 (fnv f e)) ∧ Y = X) := fun X hX => sum_any _ e cap f X ((h.below hX.1).less e (by omega))
  have ST : Hid (∀ X, Below w.heap.size w X ∧ OAt X w.heap.size Oc.zero → Calls Try.prog 12 #[.pointer (some ⟨X.heap.size, 0, none⟩)] (X.alloc (.cells #[.slice (some ⟨b, off, none⟩) e cap, .int .i64 4, .bool false] 46)) fun en Y => ∃ c o Z, en = .returned (.agg (Oc.cells c)) ∧ (storeO ⟨Y.heap.size, 0, none⟩ (.agg c.cells)).run Try.prog (Y.alloc zeroO) = .ok () Z ∧ Hid (De w Z X.heap.size Y.heap.size (some ⟨b, off, none⟩) e cap f c o (objS f e ⟨4, false⟩).2 (X.heap.size + 5) ∧ ((objS f e ⟨4, false⟩).2.st = false → o = (objS f e ⟨4, false⟩).1))) := fun X hX => stage w X b off e cap f hX.1 hX.2 h hc hl hl2
  have hoct : Oct f (e + 4) := fun i hi => by
    rcases h.rd.2 with h0 | ⟨b', off', _, h2⟩
    · omega
    · exact (h2 i hi).2
  generalize fnv f e = fv at *
  generalize fits (e + 4) (e : Int) = ft at *
  have n1 : (fv != fv) = false := by simp
  clear h hs hm
  unfold zeroO at T0 hv
  unfold markS at hv
  have SU : Hid (∀ X, Below w.heap.size w X ∧ OAt X w.heap.size Oc.zero → Calls Try.prog 12 #[.pointer (some ⟨X.heap.size, 0, none⟩)] (X.alloc (.cells #[.slice (some ⟨b, off, none⟩) e cap, .int .i64 4, .bool false] 46)) fun en Y => ∃ c Z, en = .returned (.agg (Oc.cells c)) ∧ (storeO ⟨Y.heap.size, 0, none⟩ (.agg c.cells)).run Try.prog (Y.alloc zeroO) = .ok () Z ∧ Hid (De w Z X.heap.size Y.heap.size (some ⟨b, off, none⟩) e cap f c (objS f e ⟨4, false⟩).1 (objS f e ⟨4, false⟩).2 (X.heap.size + 5))) := fun X hX => (ST.out X hX).mono fun en Y hh => by
    obtain ⟨c, o, Z, h1, h2, h3⟩ := hh
    exact ⟨c, Z, h1, h2, De.as h3.out.1 (h3.out.2 hst0)⟩
  clear ST
  unfold zeroO at SU
  have FI := (fine_read (f := f) (len := e) (fun i hi => hoct i (by omega)) (by omega) ⟨4, false⟩ hst0).few
  have OB : Hid (∀ X B c, ObAt X B c (objS f e ⟨4, false⟩).1 → ObAt X B c (objS f (e + 4 - 4) ⟨4, false⟩).1) := fun X B c hX => by rw [Nat.add_sub_cancel]; exact hX
  have RG : Hid (∀ X B c, ObAt X B c (objS f e ⟨4, false⟩).1 → Calls Try.prog 13 #[.agg c.cells] X fun en Y => en = .returned (.bool true) ∧ Below X.heap.size X Y) := fun X B c hX => (right_any X c _ (hX.rd FI)).mono fun en Y hh => ⟨by rw [← hr0]; exact hh.1, hh.2⟩
  generalize (objS f e ⟨4, false⟩).1 = oo at *
  generalize (objS f e ⟨4, false⟩).2 = ss at *
  obtain ⟨sp, sst⟩ := ss
  simp only at *
  subst hst0
  have p1 : decide ((sp : Int) < (e : Int)) = false := decide_eq_false (by omega)
  have p2 : ¬ sp < e := hp0
  clear hr0 FI
  go_enter Try.func5, Try.ntmps5
  go_wp2_with (first
    | (go_at_call 10; refine (GT.out _ T0.out).mono ?_; rintro en w1 ⟨rfl, hb1⟩; have H1 := hid_of hb1; clear hb1)
    | (go_at_call 11; refine (SM.out _ H1.out).mono ?_; rintro en w2 ⟨rfl, hw⟩; rw [hw]; clear hw)
    | (go_at_call 12; refine (SU.out _ H1.out).mono ?_; rintro en w3 ⟨c, Z, rfl, hst, DD⟩; have k1 := DD.out.rd.c1; have k2 := DD.out.rd.c2; have lo1 := loadO_run DD.out.og)
    | (go_at_call 13; refine (RG.out _ _ c DD.out.ob).mono ?_; rintro en w5 ⟨rfl, hb5⟩; have D5 := hid_of (DD.out.below hb5); have lo5 := loadO_run D5.out.og; obtain ⟨Z2, z1, z2, HZ⟩ := D5.out.put c; clear hb5))
  refine ret_cell_tmp2 (p := 2) (q := 3) (r := 4) rfl rfl (loadO_run HZ.out.1) rfl ?_
  exact ⟨c, by rw [hR]; rfl, HZ.out.2.1, (fun h => by rw [hR] at h; exact absurd rfl h), fun _ => ⟨_, D5.out.lo.2.2.1, OB.out _ _ _ HZ.out.2.2⟩⟩
/-- Decode, of whatever bytes. -/
theorem decode_any (w : World) (a : Option Addr) (len cap : Nat) (f : Nat → Int) (h : Src w a len cap f) (hc : len ≤ cap) : Calls Try.prog 5 #[.slice a len cap] w (PostC w f len) := by
  by_cases h1 : 1048576 < len
  · exact decode_long w a len cap f h h1
  by_cases h2 : len < 8
  · exact decode_short w a len cap f h h2
  obtain ⟨b, off, rfl⟩ := h.some (by omega)
  by_cases hm : strOfNums (bl f 4) = markS
  · obtain ⟨e, rfl⟩ : ∃ e, len = e + 4 := ⟨len - 4, by omega⟩
    by_cases hs : gotW (e + 4) f (e : Int) = fnv f e
    · cases hst : (objS f e ⟨4, false⟩).2.st
      · by_cases hp : (objS f e ⟨4, false⟩).2.p < e
        · exact decode_less w b off e cap f h hc (by omega) (by omega) hm hs hst hp
        · cases hr : rightB (objS f e ⟨4, false⟩).1
          · exact decode_wrong w b off e cap f h hc (by omega) (by omega) hm hs hst hp hr
          · exact decode_ok w b off e cap f h hc (by omega) (by omega) hm hs hst hp hr
      · exact decode_stuck w b off e cap f h hc (by omega) (by omega) hm hs hst
    · exact decode_sum w b off e cap f h hc (by omega) (by omega) hm hs
  · exact decode_mark w b off len cap f h hc (by omega) (by omega) hm
end Go.Proofs.Ytepgifapepaheaa

namespace Go.Proofs.Ytepgifapepaheaa
set_option linter.unusedVariables false
set_option linter.unusedSimpArgs false
open Go.ChangeShapes Go.WideShapes Go.ChangeAt Go.RowKit

theorem ints_nil (w : World) : Calls Try.prog 21 #[.slice none 0 0, .slice none 0 0] w fun e w' => e = .returned (.bool true) ∧ w' = w := by
  go_enter Try.func21, Try.ntmps21
  go_wp2
  go_loopg [5] 0 (fun gf s5 wx => s5 = .int .i64 0 ∧ wx = w)
  case atStart => exact ⟨rfl, rfl⟩
  case round =>
    obtain ⟨rfl, hww⟩ := hrel
    obtain rfl := hww.symm
    go_wp2
    go_ret
    exact ⟨rfl, rfl⟩
attribute [local go_sem ↓] loadO_seal
set_option maxHeartbeats 4000000 in
set_option maxRecDepth 20000 in
theorem procs_zero (w : World) : Calls Try.prog 22 #[.agg Oc.zero.cells, .agg Oc.zero.cells] w fun e w' => e = .returned (.bool true) ∧ Below w.heap.size w w' := by
  have IN : Hid (∀ X, Calls Try.prog 21 #[.slice none 0 0, .slice none 0 0] X fun e w' => e = .returned (.bool true) ∧ w' = X) := fun X => ints_nil X
  simp only [Oc.cells, Oc.zero]
  obtain ⟨W, hW⟩ : ∃ W, W = (w.alloc zeroO).alloc zeroO := ⟨_, rfl⟩
  have HB : Hid (Below w.heap.size w W) := by rw [hW]; exact ((Below.refl _ _).alloc (Nat.le_refl _) _).alloc (by simp) _
  unfold zeroO at hW
  have c2 : W.heap[w.heap.size]? = some (.cells Oc.zero.cells 33 (0, 0)) := by rw [hW, Below.heap_alloc _ _ _ (by simp)]; exact blk_new _ _
  have c3 : W.heap[w.heap.size + 1]? = some (.cells Oc.zero.cells 33 (0, 0)) := by rw [hW]; have := blk_new (w.alloc zeroO) zeroO; rw [show (w.alloc zeroO).heap.size = w.heap.size + 1 by simp] at this; exact this
  have f4 : W.cell? ⟨w.heap.size, 4, none⟩ = some (.slice none 0 0) := blk_cell c2 4
  have f5 : W.cell? ⟨w.heap.size, 5, none⟩ = some (.slice none 0 0) := blk_cell c2 5
  have f6 : W.cell? ⟨w.heap.size, 6, none⟩ = some (.slice none 0 0) := blk_cell c2 6
  have f8 : W.cell? ⟨w.heap.size, 8, none⟩ = some (.slice none 0 0) := blk_cell c2 8
  have f9 : W.cell? ⟨w.heap.size, 9, none⟩ = some (.slice none 0 0) := blk_cell c2 9
  have g4 : W.cell? ⟨w.heap.size + 1, 4, none⟩ = some (.slice none 0 0) := blk_cell c3 4
  have g5 : W.cell? ⟨w.heap.size + 1, 5, none⟩ = some (.slice none 0 0) := blk_cell c3 5
  have g6 : W.cell? ⟨w.heap.size + 1, 6, none⟩ = some (.slice none 0 0) := blk_cell c3 6
  have g8 : W.cell? ⟨w.heap.size + 1, 8, none⟩ = some (.slice none 0 0) := blk_cell c3 8
  have g9 : W.cell? ⟨w.heap.size + 1, 9, none⟩ = some (.slice none 0 0) := blk_cell c3 9
  clear c2 c3
  go_enter Try.func22, Try.ntmps22
  go_wp2_with (first
    | (rw [← hW]; clear hW)
    | (go_at_call 21; refine (IN.out _).mono ?_; rintro e w1 ⟨rfl, hw⟩; rw [hw]; clear hw))
  go_loopg [8] 0 (fun gf s8 wx => s8 = .int .i64 0 ∧ wx = W)
  case atStart => exact ⟨rfl, rfl⟩
  case round =>
    obtain ⟨rfl, hww⟩ := hrel
    subst hww
    go_wp2
    go_loopg [9] 0 (fun gf s9 wx => s9 = .int .i64 0 ∧ wx = wr)
    case atStart => exact ⟨rfl, rfl⟩
    case round =>
      obtain ⟨rfl, hww⟩ := hrel
      subst hww
      go_wp2
      go_ret
      exact ⟨rfl, HB.out⟩
set_option maxHeartbeats 8000000 in
set_option maxRecDepth 20000 in
theorem same_zero (w : World) : Calls Try.prog 7 #[.agg Oc.zero.cells, .agg Oc.zero.cells] w fun e w' => e = .returned (.bool true) ∧ Below w.heap.size w w' := by
  have PZ : Hid (∀ X, Calls Try.prog 22 #[.agg Oc.zero.cells, .agg Oc.zero.cells] X fun e w' => e = .returned (.bool true) ∧ Below X.heap.size X w') := fun X => procs_zero X
  simp only [Oc.cells, Oc.zero] at PZ
  simp only [Oc.cells, Oc.zero]
  obtain ⟨W, hW⟩ : ∃ W, W = (w.alloc zeroO).alloc zeroO := ⟨_, rfl⟩
  have HB : Hid (Below w.heap.size w W) := by rw [hW]; exact ((Below.refl _ _).alloc (Nat.le_refl _) _).alloc (by simp) _
  unfold zeroO at hW
  have c2 : W.heap[w.heap.size]? = some (.cells Oc.zero.cells 33 (0, 0)) := by rw [hW, Below.heap_alloc _ _ _ (by simp)]; exact blk_new _ _
  have c3 : W.heap[w.heap.size + 1]? = some (.cells Oc.zero.cells 33 (0, 0)) := by rw [hW]; have := blk_new (w.alloc zeroO) zeroO; rw [show (w.alloc zeroO).heap.size = w.heap.size + 1 by simp] at this; exact this
  have f2 : W.cell? ⟨w.heap.size, 2, none⟩ = some (.slice none 0 0) := blk_cell c2 2
  have g2 : W.cell? ⟨w.heap.size + 1, 2, none⟩ = some (.slice none 0 0) := blk_cell c3 2
  have f3 : W.cell? ⟨w.heap.size, 3, none⟩ = some (.slice none 0 0) := blk_cell c2 3
  have g3 : W.cell? ⟨w.heap.size + 1, 3, none⟩ = some (.slice none 0 0) := blk_cell c3 3
  have f10 : W.cell? ⟨w.heap.size, 10, none⟩ = some (.slice none 0 0) := blk_cell c2 10
  have g10 : W.cell? ⟨w.heap.size + 1, 10, none⟩ = some (.slice none 0 0) := blk_cell c3 10
  have f11 : W.cell? ⟨w.heap.size, 11, none⟩ = some (.slice none 0 0) := blk_cell c2 11
  have g11 : W.cell? ⟨w.heap.size + 1, 11, none⟩ = some (.slice none 0 0) := blk_cell c3 11
  have f12 : W.cell? ⟨w.heap.size, 12, none⟩ = some (.slice none 0 0) := blk_cell c2 12
  have g12 : W.cell? ⟨w.heap.size + 1, 12, none⟩ = some (.slice none 0 0) := blk_cell c3 12
  have f0 : W.cell? ⟨w.heap.size, 0, none⟩ = some (.string ⟨#[]⟩) := blk_cell c2 0
  have g0 : W.cell? ⟨w.heap.size + 1, 0, none⟩ = some (.string ⟨#[]⟩) := blk_cell c3 0
  have f1 : W.cell? ⟨w.heap.size, 1, none⟩ = some (.int .u32 0) := blk_cell c2 1
  have g1 : W.cell? ⟨w.heap.size + 1, 1, none⟩ = some (.int .u32 0) := blk_cell c3 1
  have f7 : W.cell? ⟨w.heap.size, 7, none⟩ = some (.int .i64 0) := blk_cell c2 7
  have g7 : W.cell? ⟨w.heap.size + 1, 7, none⟩ = some (.int .i64 0) := blk_cell c3 7
  have l2 := loadO_run c2
  have l3 := loadO_run c3
  simp only [Oc.cells, Oc.zero] at l2 l3
  clear c2 c3
  go_enter Try.func7, Try.ntmps7
  go_wp2_with (rw [← hW]; clear hW)
  go_loopg [5] 0 (fun gf s5 wx => s5 = .int .i64 0 ∧ wx = W)
  case atStart => exact ⟨rfl, rfl⟩
  case round =>
    obtain ⟨rfl, hww⟩ := hrel
    subst hww
    go_wp2
    go_loopg [6] 0 (fun gf s6 wx => s6 = .int .i64 0 ∧ wx = wr)
    case atStart => exact ⟨rfl, rfl⟩
    case round =>
      obtain ⟨rfl, hww⟩ := hrel
      subst hww
      go_wp2
      go_loopg [7] 0 (fun gf s7 wx => s7 = .int .i64 0 ∧ wx = wr)
      case atStart => exact ⟨rfl, rfl⟩
      case round =>
        obtain ⟨rfl, hww⟩ := hrel
        subst hww
        go_wp2
        go_loopg [8, 9] 0 (fun gf s8 s9 wx => s8 = .int .i64 0 ∧ wx = wr)
        case atStart => exact ⟨rfl, rfl⟩
        case round =>
          obtain ⟨rfl, hww⟩ := hrel
          subst hww
          go_wp2
          go_loopg [10] 0 (fun gf s10 wx => s10 = .int .i64 0 ∧ wx = wr)
          case atStart => exact ⟨rfl, rfl⟩
          case round =>
            obtain ⟨rfl, hww⟩ := hrel
            subst hww
            go_wp2_with (go_at_call 22; refine (PZ.out _).mono ?_; rintro e w1 ⟨rfl, hb⟩)
            go_ret
            exact ⟨rfl, HB.out.trans (hb.mono HB.out.size)⟩
end Go.Proofs.Ytepgifapepaheaa

namespace Go.Proofs.Ytepgifapepaheaa
set_option linter.unusedVariables false
set_option linter.unusedSimpArgs false
open Go.ChangeShapes Go.WideShapes Go.ChangeAt Go.RowKit
attribute [local go_sem ↓] loadO_seal storeO_seal

theorem Src.oct {w : World} {a : Option Addr} {len cap : Nat} {f : Nat → Int} (h : Src w a len cap f) : Oct f len := fun i hi => by
  rcases h.rd.2 with h0 | ⟨b', off', _, h2⟩
  · omega
  · exact (h2 i hi).2
theorem fnv_eq (f g : Nat → Int) : ∀ k, (∀ i, i < k → f i = g i) → fnv f k = fnv g k
  | 0, _ => rfl
  | k + 1, h => by rw [fnv, fnv, fnv_eq f g k (fun i hi => h i (by omega)), h k (by omega)]
theorem bl_get (f : Nat → Int) (n i : Nat) (hi : i < n) : (bl f n).getD i 0 = f i := by simp [bl, List.getD, hi]
theorem bl_seg (f : Nat → Int) (n : Nat) : bl f n = seg f 0 n := by unfold bl seg; exact List.map_congr_left fun j _ => by rw [Nat.zero_add]
/-- What Decode takes. -/
theorem dec_good {f : Nat → Int} {len : Nat} (h : (decR f len).2 = 0) : len ≤ 1048576 ∧ 8 ≤ len ∧ strOfNums (bl f 4) = markS ∧ gotW len f ((len - 4 : Nat) : Int) = fnv f (len - 4) ∧ (objS f (len - 4) ⟨4, false⟩).2.st = false ∧ ¬ (objS f (len - 4) ⟨4, false⟩).2.p < len - 4 ∧ rightB (objS f (len - 4) ⟨4, false⟩).1 = true ∧ (decR f len).1 = 0 := by
  have h0 := h
  unfold decR at h
  split at h
  · rename_i h1
    split at h
    · rename_i h2
      split at h
      · cases h
      · rename_i h3
        split at h
        · rename_i h4
          refine ⟨h1.1, h1.2.1, h1.2.2, h2, ?_, fun e => h3 (.inr e), h4, ?_⟩
          · cases hx : (objS f (len - 4) ⟨4, false⟩).2.st
            · rfl
            · exact absurd (.inl hx) h3
          · unfold decR
            rw [if_pos h1, if_pos h2, if_neg h3, if_pos h4]
        · cases h
    · cases h
  · cases h
theorem mark_back {f : Nat → Int} {len : Nat} (hf : Oct f len) (h4 : 4 ≤ len) (hm : strOfNums (bl f 4) = markS) : bl f 4 = markL := by
  have h1 := sL_nums (bl f 4) (fun x hx => by
    obtain ⟨j, hj, rfl⟩ := List.mem_map.1 hx
    have := List.mem_range.1 hj
    exact hf _ (by omega))
  rw [hm] at h1
  rw [← h1]
  exact mark_sL
/-- What Decode takes is what is written of it. -/
theorem dec_form {f : Nat → Int} {len : Nat} (hf : Oct f len) (h : (decR f len).2 = 0) : objL (objS f (len - 4) ⟨4, false⟩).1 = bl f len ∧ Fine (objS f (len - 4) ⟨4, false⟩).1 ∧ (bodyL (objS f (len - 4) ⟨4, false⟩).1).length ≤ 1048576 := by
  obtain ⟨h1, h2, h3, h4, h5, h6, h7, _⟩ := dec_good h
  obtain ⟨e, rfl⟩ : ∃ e, len = e + 4 := ⟨len - 4, by omega⟩
  rw [Nat.add_sub_cancel] at *
  have hfe : Oct f e := fun i hi => hf i (by omega)
  obtain ⟨_, hb⟩ := obj_form hfe (by omega) ⟨4, false⟩ h5
  obtain ⟨k, k1, k2, k3⟩ := hb (by show 4 ≤ e; omega)
  simp only at k1 k2 k3
  have hk : e = 4 + k := by omega
  refine ⟨?_, fine_read hfe (by omega) _ h5, by rw [k3, seg_len]; omega⟩
  have hbody : markL ++ bodyL (objS f e ⟨4, false⟩).1 = bl f e := by
    rw [k3, ← mark_back hf (by omega) h3, bl_seg, bl_seg, hk, seg_app]
  unfold objL
  rw [hbody, bl_len]
  have hfn : fnv (fun i => (bl f e).getD i 0) e = fnv f e := fnv_eq _ _ e fun i hi => bl_get f e i hi
  rw [hfn, ← h4, word_back hf e (by omega), bl_seg, bl_seg, seg_app, Nat.zero_add]
end Go.Proofs.Ytepgifapepaheaa
