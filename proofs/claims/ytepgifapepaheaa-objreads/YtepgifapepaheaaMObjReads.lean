/-
  Layer 7: the law's Same, at two objects that hold the same.
  Layer 7: the law's Same, at two objects that hold the same: procedures, then all.
  Layer 7: the law's Same, at two objects that hold the same.
  Layer 7: bytes with their sum behind them: the law's summed.
  Layer 7: a right object is read from its bytes, from none with more behind: the law's walk.
  Layer 7: bytes that have their sum are read as the document says: the law's walk.
  Layer 7: bytes that have their sum are read as the document says: the law, whole.
  Layer 7: rows that are there, whatever they hold: what spoil asks of an object.
  Layer 7: an object of the call's own is spoiled: what lies elsewhere stays.
  Layer 7: any bytes are read as the document says: what stands beside the law's walk.
  Layer 7: any bytes are read as the document says: the law, whole.
  Proved: for every row of bytes the law ObjReads returns true: the program's Decode reads them as the document's does (the same object, place and answer), leaves them as they were, and what it answered may be changed without a change of what it answers next. No condition.
-/
import Derived.Test.YtepgifapepaheaaRtr
import Derived.Test.YtepgifapepaheaaMDby
import Derived.Test.YtepgifapepaheaaMDrm
import Derived.Test.YtepgifapepaheaaMOneW
import Derived.Deep.CutBlock
import Derived.Deep.CutRange
import Derived.Test.YtepgifapepaheaaRows
import Derived.SizedLaws
import Derived.ProofKit
import Derived.OpenShut
import Derived.ShutString
import Derived.ChangeOld
import Derived.Below
namespace Go.Proofs.Ytepgifapepaheaa
set_option linter.unusedVariables false
set_option linter.unusedSimpArgs false
open Go.ChangeShapes Go.WideShapes Go.ChangeAt Go.RowKit

/-- Two rows that hold the same, at a place. -/
theorem two_at {X : World} {α : Type} {val : α → Value} {s t : Sl} {l : List α} (h : RdV X 1 s l.length (l.map val)) (g : RdV X 1 t l.length (l.map val)) (i : Nat) (hi : i < l.length) : ∃ b off b2 off2, s.a = some ⟨b, off, none⟩ ∧ t.a = some ⟨b2, off2, none⟩ ∧ ∀ Y, Below X.heap.size X Y → Y.cell? ⟨b, off + i, none⟩ = some (val l[i]) ∧ Y.cell? ⟨b2, off2 + i, none⟩ = some (val l[i]) := by
  rcases h.at_ with h0 | ⟨b, off, h1, _, _⟩
  · omega
  rcases g.at_ with h0 | ⟨b2, off2, g1, _, _⟩
  · omega
  have hu : (l.map val)[i]? = some (val l[i]) := by rw [List.getElem?_map, List.getElem?_eq_getElem hi]; rfl
  exact ⟨b, off, b2, off2, h1, g1, fun Y hY => ⟨(h.below hY).cell h1 (by omega) hu, (g.below hY).cell g1 (by omega) hu⟩⟩
set_option maxHeartbeats 4000000 in
set_option maxRecDepth 20000 in
theorem ints_eq (w : World) (s t : Sl) (l : List Int) (h : RdV w 1 s l.length (l.map (Value.int .i64))) (g : RdV w 1 t l.length (l.map (Value.int .i64))) : Calls Try.prog 21 #[.slice s.a s.n s.c, .slice t.a t.n t.c] w fun e w' => e = .returned (.bool true) ∧ Below w.heap.size w w' := by
  have hm := h.most
  have hs := h.len
  have ht := g.len
  have TW : Hid (∀ i (hi : i < l.length), ∃ b off b2 off2, s.a = some ⟨b, off, none⟩ ∧ t.a = some ⟨b2, off2, none⟩ ∧ ∀ Y, Below w.heap.size w Y → Y.cell? ⟨b, off + i, none⟩ = some (.int .i64 l[i]) ∧ Y.cell? ⟨b2, off2 + i, none⟩ = some (.int .i64 l[i])) := fun i hi => two_at h g i hi
  obtain ⟨sa, sn, sc⟩ := s
  obtain ⟨ta, tn, tc⟩ := t
  simp only at *
  obtain ⟨n, hn⟩ : ∃ n, n = l.length := ⟨_, rfl⟩
  have HN : Hid (n = l.length) := hn
  rw [← hn] at hm hs ht
  subst hs ht
  clear h g hn
  have e0 : ((tn : Int) != (tn : Int)) = false := by simp
  go_enter Try.func21, Try.ntmps21
  go_wp2
  go_loopg [5] tn (fun gf s5 wx => ∃ i : Nat, s5 = .int .i64 (i : Int) ∧ i + gf = tn ∧ Hid (Below w.heap.size w wx))
  case atStart => exact ⟨0, rfl, by omega, Below.refl _ _⟩
  case round =>
    obtain ⟨i, rfl, hi, HB⟩ := hrel
    by_cases hlt : i < tn
    · obtain ⟨g', rfl⟩ : ∃ g', gk = g' + 1 := ⟨gk - 1, by omega⟩
      have d1 : decide ((i : Int) < (tn : Int)) = true := decide_eq_true (by omega)
      have j0 : (0 : Int) ≤ (i : Int) := by omega
      have j1 : (i : Int) < (tn : Int) := by omega
      have hil : i < l.length := by rw [← HN.out]; exact hlt
      obtain ⟨b, off, b2, off2, rfl, rfl, hc⟩ := TW.out i hil
      obtain ⟨k0, k1⟩ := hc wr HB.out
      generalize l[i] = y at k0 k1
      clear hc TW
      have e1 : (y != y) = false := by simp
      go_wp2
      go_region
      all_goals
        go_wp2
        go_roundg g'
        case measure => omega
        case rel => exact ⟨i + 1, by simp, by omega, HB.out.drew⟩
    · have d1 : decide ((i : Int) < (tn : Int)) = false := decide_eq_false (by omega)
      go_wp2
      go_ret
      exact ⟨rfl, HB.out⟩
end Go.Proofs.Ytepgifapepaheaa

namespace Go.Proofs.Ytepgifapepaheaa
set_option linter.unusedVariables false
set_option linter.unusedSimpArgs false
open Go.ChangeShapes Go.WideShapes Go.ChangeAt Go.RowKit
attribute [local go_sem ↓] loadO_seal

/-- Two rows of things of several cells that hold the same, at a place. -/
theorem two_many {X : World} {α : Type} {enc enc2 : α → Array Value} {k : Nat} {s t : Sl} {l l2 : List α} (he : ∀ x, (enc x).size = k) (h : RdV X k s l.length (flat enc l)) (g : RdV X k t l2.length (flat enc l2)) (i : Nat) (hi : i < l.length) (hi2 : i < l2.length) : ∃ b off b2 off2, s.a = some ⟨b, off, none⟩ ∧ t.a = some ⟨b2, off2, none⟩ ∧ ∀ Y, Below X.heap.size X Y → ∀ m (hm : m < k), Y.cell? ⟨b, off + (i * k + m), none⟩ = (enc l[i])[m]? ∧ Y.cell? ⟨b2, off2 + (i * k + m), none⟩ = (enc l2[i])[m]? := by
  rcases h.at_ with h0 | ⟨b, off, h1, _, _⟩
  · omega
  rcases g.at_ with h0 | ⟨b2, off2, g1, _, _⟩
  · omega
  refine ⟨b, off, b2, off2, h1, g1, fun Y hY m hm => ?_⟩
  have e1 := flat_at enc k he l i hi m hm
  have e2 := flat_at enc k he l2 i hi2 m hm
  have q1 : (enc l[i])[m]? = some ((enc l[i])[m]'(by rw [he]; exact hm)) := Array.getElem?_eq_getElem _
  have q2 : (enc l2[i])[m]? = some ((enc l2[i])[m]'(by rw [he]; exact hm)) := Array.getElem?_eq_getElem _
  rw [q1] at e1 ⊢
  rw [q2] at e2 ⊢
  exact ⟨(h.below hY).cell h1 (by omega) e1, (g.below hY).cell g1 (by omega) e2⟩
/-- Both objects, each in a box. -/
structure SI (w X : World) (c d : Oc) : Prop where
  b1 : OAt X w.heap.size c
  b2 : OAt X (w.heap.size + 1) d
  be : Below w.heap.size w X
theorem SI.below {w X Y : World} {c d : Oc} (h : SI w X c d) (hb : Below X.heap.size X Y) : SI w Y c d := ⟨(hb.block _ h.b1.lt).trans h.b1, (hb.block _ h.b2.lt).trans h.b2, h.be.trans (hb.mono (Nat.le_of_lt h.b1.lt))⟩
theorem SI.drew {w X : World} {c d : Oc} (h : SI w X c d) : SI w X.drew c d := h.below (Below.refl _ _).drew
theorem SI.start (w : World) (c d : Oc) : SI w ((w.alloc (.cells c.cells 33)).alloc (.cells d.cells 33)) c d := by
  refine ⟨?_, ?_, by go_grown⟩
  · exact (Below.heap_alloc _ _ _ (by simp)).trans (blk_new _ _)
  · have := blk_new (w.alloc (.cells c.cells 33)) (.cells d.cells 33)
    rw [show (w.alloc (.cells c.cells 33)).heap.size = w.heap.size + 1 by simp] at this
    exact this
set_option maxHeartbeats 16000000 in
set_option maxRecDepth 20000 in
theorem procs_eq (w : World) (c d : Oc) (o : Ob) (h : ObR w c o) (g : ObR w d o) : Calls Try.prog 22 #[.agg c.cells, .agg d.cells] w fun e w' => e = .returned (.bool true) ∧ Below w.heap.size w w' := by
  have I4 : Hid (∀ X, SI w X c d → Calls Try.prog 21 #[.slice c.pr.a c.pr.n c.pr.c, .slice d.pr.a d.pr.n d.pr.c] X fun e Y => e = .returned (.bool true) ∧ SI w Y c d) := fun X hX => (ints_eq X c.pr d.pr o.procs (h.pr.below hX.be) (g.pr.below hX.be)).mono fun e Y hh => ⟨hh.1, hX.below hh.2⟩
  have I8 : Hid (∀ X, SI w X c d → Calls Try.prog 21 #[.slice c.va.a c.va.n c.va.c, .slice d.va.a d.va.n d.va.c] X fun e Y => e = .returned (.bool true) ∧ SI w Y c d) := fun X hX => (ints_eq X c.va d.va o.vars (h.va.below hX.be) (g.va.below hX.be)).mono fun e Y hh => ⟨hh.1, hX.below hh.2⟩
  have I9 : Hid (∀ X, SI w X c d → Calls Try.prog 21 #[.slice c.sh.a c.sh.n c.sh.c, .slice d.sh.a d.sh.n d.sh.c] X fun e Y => e = .returned (.bool true) ∧ SI w Y c d) := fun X hX => (ints_eq X c.sh d.sh o.shown (h.sh.below hX.be) (g.sh.below hX.be)).mono fun e Y hh => ⟨hh.1, hX.below hh.2⟩
  have Tna : Hid (∀ i (hi : i < o.names.length), ∃ b off b2 off2, c.na.a = some ⟨b, off, none⟩ ∧ d.na.a = some ⟨b2, off2, none⟩ ∧ ∀ Y, Below w.heap.size w Y → Y.cell? ⟨b, off + i, none⟩ = some (.string o.names[i]) ∧ Y.cell? ⟨b2, off2 + i, none⟩ = some (.string o.names[i])) := fun i hi => two_at h.na g.na i hi
  have Tex : Hid (∀ i (hi : i < o.exps.length), ∃ b off b2 off2, c.ex.a = some ⟨b, off, none⟩ ∧ d.ex.a = some ⟨b2, off2, none⟩ ∧ ∀ Y, Below w.heap.size w Y → Y.cell? ⟨b, off + i, none⟩ = some (.bool o.exps[i]) ∧ Y.cell? ⟨b2, off2 + i, none⟩ = some (.bool o.exps[i])) := fun i hi => two_at h.ex g.ex i hi
  have Lna : Hid (c.na.n = o.names.length ∧ d.na.n = o.names.length ∧ c.na.n ≤ 140737488355328) := ⟨h.na.len, g.na.len, by rw [h.na.len]; exact h.na.most⟩
  have Lex : Hid (c.ex.n = o.exps.length ∧ d.ex.n = o.exps.length ∧ c.ex.n ≤ 140737488355328) := ⟨h.ex.len, g.ex.len, by rw [h.ex.len]; exact h.ex.most⟩
  have m5 : c.na.n ≤ 140737488355328 := Lna.out.2.2
  have m6 : c.ex.n ≤ 140737488355328 := Lex.out.2.2
  have n5 : ((c.na.n : Int) != (d.na.n : Int)) = false := by have := Lna.out; simp; omega
  have n6 : ((c.ex.n : Int) != (d.ex.n : Int)) = false := by have := Lex.out; simp; omega
  have CL : Hid (∀ X, SI w X c d → X.cell? ⟨w.heap.size, 4, none⟩ = some (.slice c.pr.a c.pr.n c.pr.c) ∧ X.cell? ⟨w.heap.size + 1, 4, none⟩ = some (.slice d.pr.a d.pr.n d.pr.c) ∧ X.cell? ⟨w.heap.size, 8, none⟩ = some (.slice c.va.a c.va.n c.va.c) ∧ X.cell? ⟨w.heap.size + 1, 8, none⟩ = some (.slice d.va.a d.va.n d.va.c) ∧ X.cell? ⟨w.heap.size, 9, none⟩ = some (.slice c.sh.a c.sh.n c.sh.c) ∧ X.cell? ⟨w.heap.size + 1, 9, none⟩ = some (.slice d.sh.a d.sh.n d.sh.c) ∧ X.cell? ⟨w.heap.size, 5, none⟩ = some (.slice c.na.a c.na.n c.na.c) ∧ X.cell? ⟨w.heap.size + 1, 5, none⟩ = some (.slice d.na.a d.na.n d.na.c) ∧ X.cell? ⟨w.heap.size, 6, none⟩ = some (.slice c.ex.a c.ex.n c.ex.c) ∧ X.cell? ⟨w.heap.size + 1, 6, none⟩ = some (.slice d.ex.a d.ex.n d.ex.c)) := fun X hX => ⟨blk_cell hX.b1 4, blk_cell hX.b2 4, blk_cell hX.b1 8, blk_cell hX.b2 8, blk_cell hX.b1 9, blk_cell hX.b2 9, blk_cell hX.b1 5, blk_cell hX.b2 5, blk_cell hX.b1 6, blk_cell hX.b2 6⟩
  obtain ⟨W, hW⟩ : ∃ W, W = (w.alloc (.cells c.cells 33)).alloc (.cells d.cells 33) := ⟨_, rfl⟩
  have S0 : Hid (SI w W c d) := by rw [hW]; exact SI.start w c d
  obtain ⟨u1, u2, _, _, _, _, _, _, _, _⟩ := CL.out _ S0.out
  clear h g
  go_enter Try.func22, Try.ntmps22
  go_wp2_with (first
    | (rw [← hW]; clear hW)
    | (go_at_call 21; have hx := D2; clear hx; refine (I9.out _ D2.out).mono ?_; rintro e w3 ⟨rfl, d3⟩; have D0 := hid_of d3; obtain ⟨_, _, _, _, _, _, v7, v8, v9, v10⟩ := CL.out _ d3; clear d3)
    | (go_at_call 21; have hx := D1; clear hx; refine (I8.out _ D1.out).mono ?_; rintro e w2 ⟨rfl, d2⟩; have D2 := hid_of d2; obtain ⟨_, _, _, _, v5, v6, _, _, _, _⟩ := CL.out _ d2; clear d2)
    | (go_at_call 21; refine (I4.out _ S0.out).mono ?_; rintro e w1 ⟨rfl, d1⟩; have D1 := hid_of d1; obtain ⟨_, _, v3, v4, _, _, _, _, _, _⟩ := CL.out _ d1; clear d1))
  go_loopg [8] c.na.n (fun gf t8 wx => ∃ i : Nat, t8 = .int .i64 (i : Int) ∧ i + gf = c.na.n ∧ Hid (SI w wx c d))
  case atStart => exact ⟨0, rfl, by omega, D0.out⟩
  case round =>
    obtain ⟨i, rfl, hi, HS⟩ := hrel
    have q1 : wr.cell? ⟨w.heap.size, 5, none⟩ = some (.slice c.na.a c.na.n c.na.c) := blk_cell HS.out.b1 5
    have q2 : wr.cell? ⟨w.heap.size + 1, 5, none⟩ = some (.slice d.na.a d.na.n d.na.c) := blk_cell HS.out.b2 5
    by_cases hlt : i < c.na.n
    · obtain ⟨g', rfl⟩ : ∃ g', gk = g' + 1 := ⟨gk - 1, by omega⟩
      have d1 : decide ((i : Int) < (c.na.n : Int)) = true := decide_eq_true (by omega)
      have j0 : (0 : Int) ≤ (i : Int) := by omega
      have j1 : (i : Int) < (c.na.n : Int) := by omega
      have j2 : (i : Int) < (d.na.n : Int) := by have := Lna.out; omega
      have j3 : i < d.na.n := by have := Lna.out; omega
      have hil : i < o.names.length := by have := Lna.out; omega
      obtain ⟨b, off, b2, off2, ha, ha2, hc⟩ := Tna.out i hil
      obtain ⟨k0, k1⟩ := hc wr HS.out.be
      rw [ha] at q1
      rw [ha2] at q2
      generalize o.names[i] = y at k0 k1
      clear hc
      have e1 : (y.toList == y.toList) = true := by simp
      go_wp2
      go_region
      all_goals
        go_wp2
        go_roundg g'
        case measure => omega
        case rel => exact ⟨i + 1, by simp, by omega, HS.out.drew⟩
    · have d1 : decide ((i : Int) < (c.na.n : Int)) = false := decide_eq_false (by omega)
      obtain ⟨wo, rfl⟩ : ∃ wo, wo = wr := ⟨_, rfl⟩
      have d5 := HS
      go_wp2
      go_loopg [9] c.ex.n (fun gf t9 wx => ∃ i : Nat, t9 = .int .i64 (i : Int) ∧ i + gf = c.ex.n ∧ Hid (SI w wx c d))
      case atStart => exact ⟨0, rfl, by omega, d5.out⟩
      case round =>
        obtain ⟨i, rfl, hi, HS⟩ := hrel
        have q1 : wr.cell? ⟨w.heap.size, 6, none⟩ = some (.slice c.ex.a c.ex.n c.ex.c) := blk_cell HS.out.b1 6
        have q2 : wr.cell? ⟨w.heap.size + 1, 6, none⟩ = some (.slice d.ex.a d.ex.n d.ex.c) := blk_cell HS.out.b2 6
        by_cases hlt : i < c.ex.n
        · obtain ⟨g', rfl⟩ : ∃ g', gk = g' + 1 := ⟨gk - 1, by omega⟩
          have d1 : decide ((i : Int) < (c.ex.n : Int)) = true := decide_eq_true (by omega)
          have j0 : (0 : Int) ≤ (i : Int) := by omega
          have j1 : (i : Int) < (c.ex.n : Int) := by omega
          have j2 : (i : Int) < (d.ex.n : Int) := by have := Lex.out; omega
          have j3 : i < d.ex.n := by have := Lex.out; omega
          have hil : i < o.exps.length := by have := Lex.out; omega
          obtain ⟨b, off, b2, off2, ha, ha2, hc⟩ := Tex.out i hil
          obtain ⟨k0, k1⟩ := hc wr HS.out.be
          rw [ha] at q1
          rw [ha2] at q2
          generalize o.exps[i] = y at k0 k1
          clear hc
          have e1 : (y != y) = false := by simp
          go_wp2
          go_region
          all_goals
            go_wp2
            go_roundg g'
            case measure => omega
            case rel => exact ⟨i + 1, by simp, by omega, HS.out.drew⟩
        · have d1 : decide ((i : Int) < (c.ex.n : Int)) = false := decide_eq_false (by omega)
          go_wp2
          go_ret
          exact ⟨rfl, HS.out.be⟩
end Go.Proofs.Ytepgifapepaheaa

namespace Go.Proofs.Ytepgifapepaheaa
set_option linter.unusedVariables false
set_option linter.unusedSimpArgs false
open Go.ChangeShapes Go.WideShapes Go.ChangeAt Go.RowKit
attribute [local go_sem ↓] loadO_seal

set_option maxHeartbeats 32000000 in
set_option maxRecDepth 20000 in
theorem same_eq (w : World) (c d : Oc) (o : Ob) (h : ObR w c o) (g : ObR w d o) : Calls Try.prog 7 #[.agg c.cells, .agg d.cells] w fun e w' => e = .returned (.bool true) ∧ Below w.heap.size w w' := by
  have PE : Hid (∀ X, SI w X c d → Calls Try.prog 22 #[.agg c.cells, .agg d.cells] X fun e Y => e = .returned (.bool true) ∧ Below w.heap.size w Y) := fun X hX => (procs_eq X c d o (h.below hX.be) (g.below hX.be)).mono fun e Y hh => ⟨hh.1, hX.be.trans (hh.2.mono hX.be.size)⟩
  obtain ⟨l1, a1, a2, a3⟩ := h.ds
  obtain ⟨l2, b1, b2, b3⟩ := g.ds
  have n12 : l1.length = l2.length := by have := congrArg List.length (a1.trans b1.symm); simpa using this
  have h12 : ∀ i, i < l1.length → (l1.getD i d0).1 = (l2.getD i d0).1 := fun i hi => by
    have e1 : (l1.map (·.1))[i]? = (l2.map (·.1))[i]? := by rw [a1, b1]
    rw [List.getElem?_map, List.getElem?_map, List.getElem?_eq_getElem hi, List.getElem?_eq_getElem (by omega)] at e1
    rw [getD_at _ _ i hi, getD_at _ _ i (by omega)]
    simpa using e1
  have Tds : Hid (∀ i, i < c.ds.n → i < d.ds.n → ∃ b off b2 off2, c.ds.a = some ⟨b, off, none⟩ ∧ d.ds.a = some ⟨b2, off2, none⟩ ∧ ∀ Y, Below w.heap.size w Y → ∀ m (hm : m < 3), Y.cell? ⟨b, off + (i * 3 + m), none⟩ = (dEnc (l1.getD i d0))[m]? ∧ Y.cell? ⟨b2, off2 + (i * 3 + m), none⟩ = (dEnc (l2.getD i d0))[m]?) := fun i hi hi2 => by
    rw [a2.len] at hi
    rw [b2.len] at hi2
    rw [getD_at _ _ i hi, getD_at _ _ i hi2]
    exact two_many (enc := dEnc) (enc2 := dEnc) (k := 3) (fun _ => rfl) a2 b2 i hi hi2
  have Hds : Hid (∀ i, i < c.ds.n → (l1.getD i d0).1 = (l2.getD i d0).1) := fun i hi => h12 i (by rw [← a2.len]; exact hi)
  have IDs : Hid (∀ X, SI w X c d → ∀ i, i < c.ds.n → Calls Try.prog 21 #[.slice (l1.getD i d0).2.a (l1.getD i d0).2.n (l1.getD i d0).2.c, .slice (l2.getD i d0).2.a (l2.getD i d0).2.n (l2.getD i d0).2.c] X fun e Y => e = .returned (.bool true) ∧ SI w Y c d) := fun X hX i hi => by
    rw [a2.len] at hi
    have e1 := (a3 (l1.getD i d0) (by rw [getD_at _ _ i hi]; exact List.getElem_mem hi)).below hX.be
    have e2 := (b3 (l2.getD i d0) (by rw [getD_at _ _ i (by omega)]; exact List.getElem_mem _)).below hX.be
    rw [← h12 i hi] at e2
    exact (ints_eq X _ _ _ e1 e2).mono fun e Y hh => ⟨hh.1, hX.below hh.2⟩
  have Tim : Hid (∀ i (hi : i < o.imps.length), ∃ b off b2 off2, c.im.a = some ⟨b, off, none⟩ ∧ d.im.a = some ⟨b2, off2, none⟩ ∧ ∀ Y, Below w.heap.size w Y → ∀ m (hm : m < 2), Y.cell? ⟨b, off + (i * 2 + m), none⟩ = (iEnc o.imps[i])[m]? ∧ Y.cell? ⟨b2, off2 + (i * 2 + m), none⟩ = (iEnc o.imps[i])[m]?) := fun i hi => two_many (enc := iEnc) (enc2 := iEnc) (k := 2) (fun _ => rfl) h.im g.im i hi hi
  have Tfx : Hid (∀ i (hi : i < o.fixes.length), ∃ b off b2 off2, c.fx.a = some ⟨b, off, none⟩ ∧ d.fx.a = some ⟨b2, off2, none⟩ ∧ ∀ Y, Below w.heap.size w Y → ∀ m (hm : m < 4), Y.cell? ⟨b, off + (i * 4 + m), none⟩ = (xEnc o.fixes[i])[m]? ∧ Y.cell? ⟨b2, off2 + (i * 4 + m), none⟩ = (xEnc o.fixes[i])[m]?) := fun i hi => two_many (enc := xEnc) (enc2 := xEnc) (k := 4) (fun _ => rfl) h.fx g.fx i hi hi
  have Tco : Hid (∀ i (hi : i < o.code.length), ∃ b off b2 off2, c.co.a = some ⟨b, off, none⟩ ∧ d.co.a = some ⟨b2, off2, none⟩ ∧ ∀ Y, Below w.heap.size w Y → Y.cell? ⟨b, off + i, none⟩ = some (.int .u32 o.code[i]) ∧ Y.cell? ⟨b2, off2 + i, none⟩ = some (.int .u32 o.code[i])) := fun i hi => two_at h.co g.co i hi
  have Tst : Hid (∀ i (hi : i < o.strs.length), ∃ b off b2 off2, c.st.a = some ⟨b, off, none⟩ ∧ d.st.a = some ⟨b2, off2, none⟩ ∧ ∀ Y, Below w.heap.size w Y → Y.cell? ⟨b, off + i, none⟩ = some (.string o.strs[i]) ∧ Y.cell? ⟨b2, off2 + i, none⟩ = some (.string o.strs[i])) := fun i hi => two_at h.st g.st i hi
  have Lim : Hid (c.im.n = o.imps.length ∧ d.im.n = o.imps.length ∧ c.im.n ≤ 140737488355328) := ⟨h.im.len, g.im.len, by rw [h.im.len]; exact h.im.most⟩
  have Lco : Hid (c.co.n = o.code.length ∧ d.co.n = o.code.length ∧ c.co.n ≤ 140737488355328) := ⟨h.co.len, g.co.len, by rw [h.co.len]; exact h.co.most⟩
  have Lst : Hid (c.st.n = o.strs.length ∧ d.st.n = o.strs.length ∧ c.st.n ≤ 140737488355328) := ⟨h.st.len, g.st.len, by rw [h.st.len]; exact h.st.most⟩
  have Lfx : Hid (c.fx.n = o.fixes.length ∧ d.fx.n = o.fixes.length ∧ c.fx.n ≤ 140737488355328) := ⟨h.fx.len, g.fx.len, by rw [h.fx.len]; exact h.fx.most⟩
  have Lds : Hid (c.ds.n = l1.length ∧ d.ds.n = l1.length ∧ c.ds.n ≤ 140737488355328) := ⟨a2.len, by rw [b2.len, n12], by rw [a2.len]; exact a2.most⟩
  have mim : c.im.n ≤ 140737488355328 := Lim.out.2.2
  have nim : ((c.im.n : Int) != (d.im.n : Int)) = false := by have := Lim.out; simp; omega
  have mco : c.co.n ≤ 140737488355328 := Lco.out.2.2
  have nco : ((c.co.n : Int) != (d.co.n : Int)) = false := by have := Lco.out; simp; omega
  have mst : c.st.n ≤ 140737488355328 := Lst.out.2.2
  have nst : ((c.st.n : Int) != (d.st.n : Int)) = false := by have := Lst.out; simp; omega
  have mfx : c.fx.n ≤ 140737488355328 := Lfx.out.2.2
  have nfx : ((c.fx.n : Int) != (d.fx.n : Int)) = false := by have := Lfx.out; simp; omega
  have mds : c.ds.n ≤ 140737488355328 := Lds.out.2.2
  have nds : ((c.ds.n : Int) != (d.ds.n : Int)) = false := by have := Lds.out; simp; omega
  have nnm : c.nm = d.nm := by rw [h.nm, g.nm]
  have nke : c.key = d.key := by rw [h.key, g.key]
  have nin : c.ini = d.ini := by rw [h.ini, g.ini]
  have y1 : (d.nm.toList == d.nm.toList) = true := by simp
  have y2 : (d.key != d.key) = false := by simp
  have y3 : (d.ini != d.ini) = false := by simp
  obtain ⟨W, hW⟩ : ∃ W, W = (w.alloc (.cells c.cells 33)).alloc (.cells d.cells 33) := ⟨_, rfl⟩
  have S0 : Hid (SI w W c d) := by rw [hW]; exact SI.start w c d
  have u0 : W.cell? ⟨w.heap.size, 0, none⟩ = some (.string d.nm) := by rw [← nnm]; exact blk_cell S0.out.b1 0
  have u1 : W.cell? ⟨w.heap.size, 1, none⟩ = some (.int .u32 d.key) := by rw [← nke]; exact blk_cell S0.out.b1 1
  have u7 : W.cell? ⟨w.heap.size, 7, none⟩ = some (.int .i64 d.ini) := by rw [← nin]; exact blk_cell S0.out.b1 7
  have v0 : W.cell? ⟨w.heap.size + 1, 0, none⟩ = some (.string d.nm) := blk_cell S0.out.b2 0
  have v1 : W.cell? ⟨w.heap.size + 1, 1, none⟩ = some (.int .u32 d.key) := blk_cell S0.out.b2 1
  have v7 : W.cell? ⟨w.heap.size + 1, 7, none⟩ = some (.int .i64 d.ini) := blk_cell S0.out.b2 7
  have u2 : W.cell? ⟨w.heap.size, 2, none⟩ = some (.slice c.im.a c.im.n c.im.c) := blk_cell S0.out.b1 2
  have v2 : W.cell? ⟨w.heap.size + 1, 2, none⟩ = some (.slice d.im.a d.im.n d.im.c) := blk_cell S0.out.b2 2
  have u3 : W.cell? ⟨w.heap.size, 3, none⟩ = some (.slice c.co.a c.co.n c.co.c) := blk_cell S0.out.b1 3
  have v3 : W.cell? ⟨w.heap.size + 1, 3, none⟩ = some (.slice d.co.a d.co.n d.co.c) := blk_cell S0.out.b2 3
  have u10 : W.cell? ⟨w.heap.size, 10, none⟩ = some (.slice c.st.a c.st.n c.st.c) := blk_cell S0.out.b1 10
  have v10 : W.cell? ⟨w.heap.size + 1, 10, none⟩ = some (.slice d.st.a d.st.n d.st.c) := blk_cell S0.out.b2 10
  have u12 : W.cell? ⟨w.heap.size, 12, none⟩ = some (.slice c.fx.a c.fx.n c.fx.c) := blk_cell S0.out.b1 12
  have v12 : W.cell? ⟨w.heap.size + 1, 12, none⟩ = some (.slice d.fx.a d.fx.n d.fx.c) := blk_cell S0.out.b2 12
  have u11 : W.cell? ⟨w.heap.size, 11, none⟩ = some (.slice c.ds.a c.ds.n c.ds.c) := blk_cell S0.out.b1 11
  have v11 : W.cell? ⟨w.heap.size + 1, 11, none⟩ = some (.slice d.ds.a d.ds.n d.ds.c) := blk_cell S0.out.b2 11
  clear h g a1 a2 a3 b1 b2 b3 n12 h12 nnm nke nin
  go_enter Try.func7, Try.ntmps7
  go_wp2_with (rw [← hW]; clear hW)
  go_loopg [5] c.im.n (fun gf t5 wx => ∃ i : Nat, t5 = .int .i64 (i : Int) ∧ i + gf = c.im.n ∧ Hid (SI w wx c d))
  case atStart => exact ⟨0, rfl, by omega, S0.out⟩
  case round =>
    obtain ⟨i, rfl, hi, HS⟩ := hrel
    have q1 : wr.cell? ⟨w.heap.size, 2, none⟩ = some (.slice c.im.a c.im.n c.im.c) := blk_cell HS.out.b1 2
    have q2 : wr.cell? ⟨w.heap.size + 1, 2, none⟩ = some (.slice d.im.a d.im.n d.im.c) := blk_cell HS.out.b2 2
    by_cases hlt : i < c.im.n
    · obtain ⟨g', rfl⟩ : ∃ g', gk = g' + 1 := ⟨gk - 1, by omega⟩
      have d1 : decide ((i : Int) < (c.im.n : Int)) = true := decide_eq_true (by omega)
      have j0 : (0 : Int) ≤ (i : Int) := by omega
      have j1 : (i : Int) < (c.im.n : Int) := by omega
      have j2 : (i : Int) < (d.im.n : Int) := by have := Lim.out; omega
      have j3 : i < d.im.n := by have := Lim.out; omega
      have hil : i < o.imps.length := by have := Lim.out; omega
      obtain ⟨b, off, b2, off2, ha, ha2, hc⟩ := Tim.out i hil
      have hcc := hc wr HS.out.be
      rw [ha] at q1
      rw [ha2] at q2
      generalize o.imps[i] = y at hcc
      have k0 : wr.cell? ⟨b, off + i * 2, none⟩ = some (.string y.1) := by have := (hcc 0 (by omega)).1; exact this
      have h0 : wr.cell? ⟨b2, off2 + i * 2, none⟩ = some (.string y.1) := by have := (hcc 0 (by omega)).2; exact this
      have k1 : wr.cell? ⟨b, off + i * 2 + 1, none⟩ = some (.int .u32 y.2) := by have := (hcc 1 (by omega)).1; rw [← Nat.add_assoc] at this; exact this
      have h1 : wr.cell? ⟨b2, off2 + i * 2 + 1, none⟩ = some (.int .u32 y.2) := by have := (hcc 1 (by omega)).2; rw [← Nat.add_assoc] at this; exact this
      have e1 : (y.1.toList == y.1.toList) = true := by simp
      clear hc hcc
      go_wp2
      go_region
      all_goals
        go_wp2
        go_roundg g'
        case measure => omega
        case rel => exact ⟨i + 1, by simp, by omega, HS.out.drew⟩
    · have d1 : decide ((i : Int) < (c.im.n : Int)) = false := decide_eq_false (by omega)
      have z1 := HS
      go_wp2
      go_loopg [6] c.co.n (fun gf t6 wx => ∃ i : Nat, t6 = .int .i64 (i : Int) ∧ i + gf = c.co.n ∧ Hid (SI w wx c d))
      case atStart => exact ⟨0, rfl, by omega, z1.out⟩
      case round =>
        obtain ⟨i, rfl, hi, HS⟩ := hrel
        have q1 : wr.cell? ⟨w.heap.size, 3, none⟩ = some (.slice c.co.a c.co.n c.co.c) := blk_cell HS.out.b1 3
        have q2 : wr.cell? ⟨w.heap.size + 1, 3, none⟩ = some (.slice d.co.a d.co.n d.co.c) := blk_cell HS.out.b2 3
        by_cases hlt : i < c.co.n
        · obtain ⟨g', rfl⟩ : ∃ g', gk = g' + 1 := ⟨gk - 1, by omega⟩
          have d1 : decide ((i : Int) < (c.co.n : Int)) = true := decide_eq_true (by omega)
          have j0 : (0 : Int) ≤ (i : Int) := by omega
          have j1 : (i : Int) < (c.co.n : Int) := by omega
          have j2 : (i : Int) < (d.co.n : Int) := by have := Lco.out; omega
          have j3 : i < d.co.n := by have := Lco.out; omega
          have hil : i < o.code.length := by have := Lco.out; omega
          obtain ⟨b, off, b2, off2, ha, ha2, hc⟩ := Tco.out i hil
          obtain ⟨k0, k1⟩ := hc wr HS.out.be
          rw [ha] at q1
          rw [ha2] at q2
          generalize o.code[i] = y at k0 k1
          clear hc
          have e1 : (y != y) = false := by simp
          go_wp2
          go_region
          all_goals
            go_wp2
            go_roundg g'
            case measure => omega
            case rel => exact ⟨i + 1, by simp, by omega, HS.out.drew⟩
        · have d1 : decide ((i : Int) < (c.co.n : Int)) = false := decide_eq_false (by omega)
          have z2 := HS
          go_wp2
          go_loopg [7] c.st.n (fun gf t7 wx => ∃ i : Nat, t7 = .int .i64 (i : Int) ∧ i + gf = c.st.n ∧ Hid (SI w wx c d))
          case atStart => exact ⟨0, rfl, by omega, z2.out⟩
          case round =>
            obtain ⟨i, rfl, hi, HS⟩ := hrel
            have q1 : wr.cell? ⟨w.heap.size, 10, none⟩ = some (.slice c.st.a c.st.n c.st.c) := blk_cell HS.out.b1 10
            have q2 : wr.cell? ⟨w.heap.size + 1, 10, none⟩ = some (.slice d.st.a d.st.n d.st.c) := blk_cell HS.out.b2 10
            by_cases hlt : i < c.st.n
            · obtain ⟨g', rfl⟩ : ∃ g', gk = g' + 1 := ⟨gk - 1, by omega⟩
              have d1 : decide ((i : Int) < (c.st.n : Int)) = true := decide_eq_true (by omega)
              have j0 : (0 : Int) ≤ (i : Int) := by omega
              have j1 : (i : Int) < (c.st.n : Int) := by omega
              have j2 : (i : Int) < (d.st.n : Int) := by have := Lst.out; omega
              have j3 : i < d.st.n := by have := Lst.out; omega
              have hil : i < o.strs.length := by have := Lst.out; omega
              obtain ⟨b, off, b2, off2, ha, ha2, hc⟩ := Tst.out i hil
              obtain ⟨k0, k1⟩ := hc wr HS.out.be
              rw [ha] at q1
              rw [ha2] at q2
              generalize o.strs[i] = y at k0 k1
              clear hc
              have e1 : (y.toList == y.toList) = true := by simp
              go_wp2
              go_region
              all_goals
                go_wp2
                go_roundg g'
                case measure => omega
                case rel => exact ⟨i + 1, by simp, by omega, HS.out.drew⟩
            · have d1 : decide ((i : Int) < (c.st.n : Int)) = false := decide_eq_false (by omega)
              have z3 := HS
              go_wp2
              go_loopg [8, 9] c.ds.n (fun gf t8 t9 wx => ∃ i : Nat, t8 = .int .i64 (i : Int) ∧ i + gf = c.ds.n ∧ Hid (SI w wx c d))
              case atStart => exact ⟨0, rfl, by omega, z3.out⟩
              case round =>
                obtain ⟨i, rfl, hi, HS⟩ := hrel
                have q1 : wr.cell? ⟨w.heap.size, 11, none⟩ = some (.slice c.ds.a c.ds.n c.ds.c) := blk_cell HS.out.b1 11
                have q2 : wr.cell? ⟨w.heap.size + 1, 11, none⟩ = some (.slice d.ds.a d.ds.n d.ds.c) := blk_cell HS.out.b2 11
                by_cases hlt : i < c.ds.n
                · obtain ⟨g', rfl⟩ : ∃ g', gk = g' + 1 := ⟨gk - 1, by omega⟩
                  have d1 : decide ((i : Int) < (c.ds.n : Int)) = true := decide_eq_true (by omega)
                  have j0 : (0 : Int) ≤ (i : Int) := by omega
                  have j1 : (i : Int) < (c.ds.n : Int) := by omega
                  have j2 : (i : Int) < (d.ds.n : Int) := by have := Lds.out; omega
                  have j3 : i < d.ds.n := by have := Lds.out; omega
                  obtain ⟨b, off, b2, off2, ha, ha2, hc⟩ := Tds.out i hlt (by have := Lds.out; omega)
                  have CC : Hid (∀ X, SI w X c d → X.cell? ⟨w.heap.size, 11, none⟩ = some (.slice (some ⟨b, off, none⟩) c.ds.n c.ds.c) ∧ X.cell? ⟨w.heap.size + 1, 11, none⟩ = some (.slice (some ⟨b2, off2, none⟩) d.ds.n d.ds.c) ∧ X.cell? ⟨b, off + i * 3 + 2, none⟩ = some (.slice (l1.getD i d0).2.a (l1.getD i d0).2.n (l1.getD i d0).2.c) ∧ X.cell? ⟨b2, off2 + i * 3 + 2, none⟩ = some (.slice (l2.getD i d0).2.a (l2.getD i d0).2.n (l2.getD i d0).2.c)) := fun X hX => by
                    refine ⟨by rw [← ha]; exact blk_cell hX.b1 11, by rw [← ha2]; exact blk_cell hX.b2 11, ?_, ?_⟩
                    · have := (hc X hX.be 2 (by omega)).1; rw [← Nat.add_assoc] at this; exact this
                    · have := (hc X hX.be 2 (by omega)).2; rw [← Nat.add_assoc] at this; exact this
                  have CD : Hid (∀ X, SI w X c d → X.cell? ⟨b, off + i * 3, none⟩ = some (.int .i64 (l1.getD i d0).1.1) ∧ X.cell? ⟨b2, off2 + i * 3, none⟩ = some (.int .i64 (l1.getD i d0).1.1) ∧ X.cell? ⟨b, off + i * 3 + 1, none⟩ = some (.int .i64 (l1.getD i d0).1.2.1) ∧ X.cell? ⟨b2, off2 + i * 3 + 1, none⟩ = some (.int .i64 (l1.getD i d0).1.2.1)) := fun X hX => by
                    have hh := Hds.out i hlt
                    refine ⟨(hc X hX.be 0 (by omega)).1, by rw [hh]; exact (hc X hX.be 0 (by omega)).2, ?_, ?_⟩
                    · have := (hc X hX.be 1 (by omega)).1; rw [← Nat.add_assoc] at this; exact this
                    · rw [hh]; have := (hc X hX.be 1 (by omega)).2; rw [← Nat.add_assoc] at this; exact this
                  have IT : Hid (∀ X, SI w X c d → Calls Try.prog 21 #[.slice (l1.getD i d0).2.a (l1.getD i d0).2.n (l1.getD i d0).2.c, .slice (l2.getD i d0).2.a (l2.getD i d0).2.n (l2.getD i d0).2.c] X fun e Y => e = .returned (.bool true) ∧ SI w Y c d) := fun X hX => IDs.out X hX i hlt
                  clear hc ha ha2 q1 q2
                  have q1 := (CC.out wr HS.out).1
                  generalize (l1.getD i d0).1.1 = y1 at CD
                  generalize (l1.getD i d0).1.2.1 = y2 at CD
                  generalize (l1.getD i d0).2 = s1 at CC IT
                  generalize (l2.getD i d0).2 = s2 at CC IT
                  have e1 : (y1 != y1) = false := by simp
                  have e2 : (y2 != y2) = false := by simp
                  go_wp2
                  refine wp_region_held_drew (S := (fun X => SI w X c d)) (by kernel_rfl) HS.out.drew (fun hHeld => ?_)
                  refine wpAnyH_take (i := 0) (v := ?_) rfl (by kernel_rfl) (by kernel_rfl) (by kernel_rfl) (fun _ _ _ h => h) (Or.inl ⟨by kernel_rfl, ?y0d⟩) hHeld ?r0d
                  case y0d => (intro wq hSw; go_simp; try rfl)
                  simp only [Act.put, List.setIfInBounds_toArray, List.set_cons_zero, List.set_cons_succ]
                  refine wpAnyH_take (i := 1) (v := ?_) rfl (by kernel_rfl) (by kernel_rfl) (by kernel_rfl) (fun _ _ _ h => h) (Or.inl ⟨by kernel_rfl, ?y1d⟩) hHeld ?r1d
                  case y1d => (intro wq hSw; have q := (CC.out wq hSw).1; go_simp; try rfl)
                  simp only [Act.put, List.setIfInBounds_toArray, List.set_cons_zero, List.set_cons_succ]
                  refine wpAnyH_take (i := 2) (v := ?_) rfl (by kernel_rfl) (by kernel_rfl) (by kernel_rfl) (fun _ _ _ h => h) (Or.inl ⟨by kernel_rfl, ?y2d⟩) hHeld ?r2d
                  case y2d => (intro wq hSw; go_simp; try rfl)
                  simp only [Act.put, List.setIfInBounds_toArray, List.set_cons_zero, List.set_cons_succ]
                  refine wpAnyH_take (i := 3) (v := ?_) rfl (by kernel_rfl) (by kernel_rfl) (by kernel_rfl) (fun _ _ _ h => h) (Or.inl ⟨by kernel_rfl, ?y3d⟩) hHeld ?r3d
                  case y3d => (intro wq hSw; go_simp; try rfl)
                  simp only [Act.put, List.setIfInBounds_toArray, List.set_cons_zero, List.set_cons_succ]
                  refine wpAnyH_take (i := 4) (v := ?_) rfl (by kernel_rfl) (by kernel_rfl) (by kernel_rfl) (fun _ _ _ h => h) (Or.inl ⟨by kernel_rfl, ?y4d⟩) hHeld ?r4d
                  case y4d => (intro wq hSw; go_simp; try rfl)
                  simp only [Act.put, List.setIfInBounds_toArray, List.set_cons_zero, List.set_cons_succ]
                  refine wpAnyH_take (i := 5) (v := ?_) rfl (by kernel_rfl) (by kernel_rfl) (by kernel_rfl) (fun _ _ _ h => h) (Or.inl ⟨by kernel_rfl, ?y5d⟩) hHeld ?r5d
                  case y5d => (intro wq hSw; have q := (CC.out wq hSw).2.2.1; go_simp; try rfl)
                  simp only [Act.put, List.setIfInBounds_toArray, List.set_cons_zero, List.set_cons_succ]
                  refine wpAnyH_take (i := 6) (v := ?_) rfl (by kernel_rfl) (by kernel_rfl) (by kernel_rfl) (fun _ _ _ h => h) (Or.inl ⟨by kernel_rfl, ?y6d⟩) hHeld ?r6d
                  case y6d => (intro wq hSw; go_simp; try rfl)
                  simp only [Act.put, List.setIfInBounds_toArray, List.set_cons_zero, List.set_cons_succ]
                  refine wpAnyH_take (i := 7) (v := ?_) rfl (by kernel_rfl) (by kernel_rfl) (by kernel_rfl) (fun _ _ _ h => h) (Or.inl ⟨by kernel_rfl, ?y7d⟩) hHeld ?r7d
                  case y7d => (intro wq hSw; have q := (CC.out wq hSw).2.1; go_simp; try rfl)
                  simp only [Act.put, List.setIfInBounds_toArray, List.set_cons_zero, List.set_cons_succ]
                  refine wpAnyH_take (i := 8) (v := ?_) rfl (by kernel_rfl) (by kernel_rfl) (by kernel_rfl) (fun _ _ _ h => h) (Or.inl ⟨by kernel_rfl, ?y8d⟩) hHeld ?r8d
                  case y8d => (intro wq hSw; go_simp; try rfl)
                  simp only [Act.put, List.setIfInBounds_toArray, List.set_cons_zero, List.set_cons_succ]
                  refine wpAnyH_take (i := 9) (v := ?_) rfl (by kernel_rfl) (by kernel_rfl) (by kernel_rfl) (fun _ _ _ h => h) (Or.inl ⟨by kernel_rfl, ?y9d⟩) hHeld ?r9d
                  case y9d => (intro wq hSw; go_simp; try rfl)
                  simp only [Act.put, List.setIfInBounds_toArray, List.set_cons_zero, List.set_cons_succ]
                  refine wpAnyH_take (i := 10) (v := ?_) rfl (by kernel_rfl) (by kernel_rfl) (by kernel_rfl) (fun _ _ _ h => h) (Or.inl ⟨by kernel_rfl, ?y10d⟩) hHeld ?r10d
                  case y10d => (intro wq hSw; go_simp; try rfl)
                  simp only [Act.put, List.setIfInBounds_toArray, List.set_cons_zero, List.set_cons_succ]
                  refine wpAnyH_take (i := 11) (v := ?_) rfl (by kernel_rfl) (by kernel_rfl) (by kernel_rfl) (fun _ _ _ h => h) (Or.inl ⟨by kernel_rfl, ?y11d⟩) hHeld ?r11d
                  case y11d => (intro wq hSw; have q := (CC.out wq hSw).2.2.2; go_simp; try rfl)
                  simp only [Act.put, List.setIfInBounds_toArray, List.set_cons_zero, List.set_cons_succ]
                  refine wpAnyH_ready (rs := [12]) (by kernel_rfl) (by simp) ?_
                  refine AllReadyH.cons rfl (fun K hK => ?_) AllReadyH.nil
                  go_simp
                  go_wp2_with (go_at_call 21; refine (IT.out _ HS.out.drew).mono ?_; rintro e w5 ⟨rfl, h5⟩; have H5 := hid_of h5; clear h5)
                  refine hK.out _ _ H5.out (fun _ => ?_)
                  clear hK K
                  refine wpAnyH_ready (rs := [13]) (by kernel_rfl) (by simp) ?_
                  refine AllReadyH.cons rfl (fun K hK => ?_) AllReadyH.nil
                  go_simp
                  refine hK.out _ _ H5.out (fun _ => ?_)
                  clear hK K
                  refine wpAnyH_done (by kernel_rfl) ?_ _
                  clear hHeld
                  obtain ⟨p1, p2, _, _⟩ := CC.out _ H5.out
                  obtain ⟨p3, p4, p5, p6⟩ := CD.out _ H5.out
                  clear CC CD IT
                  go_wp2
                  go_region
                  all_goals
                    go_wp2
                    go_roundg g'
                    case measure => omega
                    case rel => exact ⟨i + 1, by simp, by omega, H5.out.drew⟩
                · have d1 : decide ((i : Int) < (c.ds.n : Int)) = false := decide_eq_false (by omega)
                  have z4 := HS
                  go_wp2
                  go_loopg [10] c.fx.n (fun gf t10 wx => ∃ i : Nat, t10 = .int .i64 (i : Int) ∧ i + gf = c.fx.n ∧ Hid (SI w wx c d))
                  case atStart => exact ⟨0, rfl, by omega, z4.out⟩
                  case round =>
                    obtain ⟨i, rfl, hi, HS⟩ := hrel
                    have q1 : wr.cell? ⟨w.heap.size, 12, none⟩ = some (.slice c.fx.a c.fx.n c.fx.c) := blk_cell HS.out.b1 12
                    have q2 : wr.cell? ⟨w.heap.size + 1, 12, none⟩ = some (.slice d.fx.a d.fx.n d.fx.c) := blk_cell HS.out.b2 12
                    by_cases hlt : i < c.fx.n
                    · obtain ⟨g', rfl⟩ : ∃ g', gk = g' + 1 := ⟨gk - 1, by omega⟩
                      have d1 : decide ((i : Int) < (c.fx.n : Int)) = true := decide_eq_true (by omega)
                      have j0 : (0 : Int) ≤ (i : Int) := by omega
                      have j1 : (i : Int) < (c.fx.n : Int) := by omega
                      have j2 : (i : Int) < (d.fx.n : Int) := by have := Lfx.out; omega
                      have j3 : i < d.fx.n := by have := Lfx.out; omega
                      have hil : i < o.fixes.length := by have := Lfx.out; omega
                      obtain ⟨b, off, b2, off2, ha, ha2, hc⟩ := Tfx.out i hil
                      have hcc := hc wr HS.out.be
                      rw [ha] at q1
                      rw [ha2] at q2
                      generalize o.fixes[i] = y at hcc
                      have k0 : wr.cell? ⟨b, off + i * 4, none⟩ = some (.int .i64 y.1) := by have := (hcc 0 (by omega)).1; exact this
                      have h0 : wr.cell? ⟨b2, off2 + i * 4, none⟩ = some (.int .i64 y.1) := by have := (hcc 0 (by omega)).2; exact this
                      have k1 : wr.cell? ⟨b, off + i * 4 + 1, none⟩ = some (.int .i64 y.2.1) := by have := (hcc 1 (by omega)).1; rw [← Nat.add_assoc] at this; exact this
                      have h1 : wr.cell? ⟨b2, off2 + i * 4 + 1, none⟩ = some (.int .i64 y.2.1) := by have := (hcc 1 (by omega)).2; rw [← Nat.add_assoc] at this; exact this
                      have k2 : wr.cell? ⟨b, off + i * 4 + 2, none⟩ = some (.int .i64 y.2.2.1) := by have := (hcc 2 (by omega)).1; rw [← Nat.add_assoc] at this; exact this
                      have h2 : wr.cell? ⟨b2, off2 + i * 4 + 2, none⟩ = some (.int .i64 y.2.2.1) := by have := (hcc 2 (by omega)).2; rw [← Nat.add_assoc] at this; exact this
                      have k3 : wr.cell? ⟨b, off + i * 4 + 3, none⟩ = some (.int .i64 y.2.2.2) := by have := (hcc 3 (by omega)).1; rw [← Nat.add_assoc] at this; exact this
                      have h3 : wr.cell? ⟨b2, off2 + i * 4 + 3, none⟩ = some (.int .i64 y.2.2.2) := by have := (hcc 3 (by omega)).2; rw [← Nat.add_assoc] at this; exact this
                      clear hc hcc
                      go_wp2
                      go_region
                      all_goals
                        go_wp2
                        go_roundg g'
                        case measure => omega
                        case rel => exact ⟨i + 1, by simp, by omega, HS.out.drew⟩
                    · have d1 : decide ((i : Int) < (c.fx.n : Int)) = false := decide_eq_false (by omega)
                      have lo1 := loadO_run HS.out.b1
                      have lo2 := loadO_run HS.out.b2
                      go_wp2_with (go_at_call 22; refine (PE.out _ HS.out).mono ?_; rintro e w9 ⟨rfl, hb9⟩)
                      go_ret
                      exact ⟨rfl, hb9⟩
end Go.Proofs.Ytepgifapepaheaa

namespace Go.Proofs.Ytepgifapepaheaa
set_option linter.unusedVariables false
set_option linter.unusedSimpArgs false
open Go.ChangeShapes Go.WideShapes Go.ChangeAt Go.RowKit
attribute [local go_sem ↓] appN_seal mkN_seal

theorem made4 : (madeCells (Value.int .u8 0).cells (4 * 1)).toList = u8s [0, 0, 0, 0] := by kernel_rfl
theorem make_four (X : World) (B : Nat) (hB : B ≤ X.heap.size) : ∃ Y, (mkN 22 (.int .i64 4) (.int .i64 4)).run Try.prog X = .ok (.slice (some ⟨X.heap.size, 0, none⟩) 4 4) Y ∧ Ow Y B (.slice (some ⟨X.heap.size, 0, none⟩) 4 4) [0, 0, 0, 0] ∧ X.grownBy Y none := by
  obtain ⟨i0, hi0, hz0, hz1, hz2⟩ := info_parts info5
  obtain ⟨Y, h1, h2, h3⟩ := run_make_full (P := Try.prog) X B 22 5 i0 (.int .u8 0) 1 Try.underlying22 hi0 hz0 hz1 .i64 .i64 4 (by rw [hz2]; omega) (by unfold maxLen; omega) hB
  rw [made4] at h2
  exact ⟨Y, h1, h2, h3⟩
theorem gb_none {X Y : World} (h : X.grownBy Y none) : Below X.heap.size X Y := ⟨h.os, h.tape, h.output, h.size, fun k hk => h.block k hk (by simp)⟩
theorem gb_low {w X Y : World} {o : Option Nat} (h : Below w.heap.size w X) (hg : X.grownBy Y o) (ho : ∀ k, o = some k → w.heap.size ≤ k) : Below w.heap.size w Y := ⟨hg.os.trans h.os, hg.tape.trans h.tape, hg.output.trans h.output, Nat.le_trans h.size hg.size, fun k hk => (hg.block k (Nat.lt_of_lt_of_le hk h.size) (fun e => by have := ho k e.symm; omega)).trans (h.block k hk)⟩
end Go.Proofs.Ytepgifapepaheaa

namespace Go.Proofs.Ytepgifapepaheaa
set_option linter.unusedVariables false
set_option linter.unusedSimpArgs false
open Go.ChangeShapes Go.WideShapes Go.ChangeAt Go.RowKit
attribute [local go_sem ↓] loadO_seal storeO_seal appN_seal mkN_seal

set_option maxHeartbeats 4000000 in
set_option maxRecDepth 20000 in
theorem decode_long2 (w : World) (a : Option Addr) (len cap : Nat) (f : Nat → Int) (hl : 1048576 < len) (hfit : len ≤ 4611686018427387904) : Calls Try.prog 5 #[.slice a len cap] w (PostC w f len) := by
  have hR : decR f len = (0, 71) := by unfold decR; rw [if_neg (by omega)]
  obtain ⟨Z, hst, hz, ht⟩ := storeO_run (zero_at w) Oc.zero
  have HB : Hid (Below w.heap.size w Z) := Below.of_tq (by go_grown) ht fun k hk => by omega
  have d1 : decide ((1048576 : Int) < (len : Int)) = true := decide_eq_true (by omega)
  have d2 : 1048576 < len := hl
  unfold zeroO at hst
  simp only [Oc.cells, Oc.zero] at hst
  go_enter Try.func5, Try.ntmps5
  go_wp2
  refine ret_cell_tmp2 (p := 2) (q := 3) (r := 4) rfl rfl (loadO_run hz) rfl ?_
  exact postC_bad hR (by omega) HB.out
theorem decode_own {X : World} {B : Nat} {a : Option Addr} {n c : Nat} {l : List Int} (h : Ow X B (.slice a n c) l) (hb : AllB l) (hl : l.length ≤ 4611686018427387904) : Calls Try.prog 5 #[.slice a n c] X (PostC X (fun i => l.getD i 0) l.length) := by
  by_cases hx : 1048576 < l.length
  · have hn : n = l.length := by
      unfold Ow at h
      rcases h.2 with ⟨hv, h0⟩ | ⟨g', cap, cur, hv, _⟩
      · injection hv with _ e _; rw [e, h0]
      · injection hv
    rw [hn]
    exact decode_long2 X a l.length c _ hx hl
  · obtain ⟨h1, h2, h3⟩ := ow_src h hb (by omega)
    rw [h2] at h1 h3 ⊢
    exact decode_any X a l.length c _ h1 h3
/-- Both objects, and what was written. -/
structure BI (w Z : World) (ga : Nat) (c c2 : Oc) (o : Ob) : Prop where
  bo : OAt Z w.heap.size c
  bp : OAt Z ga c2
  ro : ObR Z c o
  rp : ObR Z c2 o
  be : Below w.heap.size w Z
theorem BI.below {w Z Y : World} {ga : Nat} {c c2 : Oc} {o : Ob} (h : BI w Z ga c c2 o) (hb : Below Z.heap.size Z Y) : BI w Y ga c c2 o := ⟨(hb.block _ h.bo.lt).trans h.bo, (hb.block _ h.bp.lt).trans h.bp, h.ro.below hb, h.rp.below hb, h.be.trans (hb.mono h.be.size)⟩
end Go.Proofs.Ytepgifapepaheaa

namespace Go.Proofs.Ytepgifapepaheaa
set_option linter.unusedVariables false
set_option linter.unusedSimpArgs false
open Go.ChangeShapes Go.WideShapes Go.ChangeAt Go.RowKit
attribute [local go_sem ↓] loadO_seal storeO_seal appN_seal mkN_seal

set_option maxHeartbeats 4000000 in
set_option maxRecDepth 20000 in
theorem rdecode_long2 (w : World) (a : Option Addr) (len cap : Nat) (f : Nat → Int) (hl : 1048576 < len) (hfit : len ≤ 4611686018427387904) : Calls Try.prog 6 #[.slice a len cap] w (PostC w f len) := by
  have hR : decR f len = (0, 71) := by unfold decR; rw [if_neg (by omega)]
  obtain ⟨Z, hst, hz, ht⟩ := storeO_run (zero_at w) Oc.zero
  have HB : Hid (Below w.heap.size w Z) := Below.of_tq (by go_grown) ht fun k hk => by omega
  have d1 : decide ((1048576 : Int) < (len : Int)) = true := decide_eq_true (by omega)
  have d2 : 1048576 < len := hl
  unfold zeroO at hst
  simp only [Oc.cells, Oc.zero] at hst
  go_enter Try.func6, Try.ntmps6
  go_wp2
  refine ret_cell_tmp2 (p := 2) (q := 3) (r := 4) rfl rfl (loadO_run hz) rfl ?_
  exact postC_bad hR (by omega) HB.out
theorem rdecode_own {X : World} {B : Nat} {a : Option Addr} {n c : Nat} {l : List Int} (h : Ow X B (.slice a n c) l) (hb : AllB l) (hl : l.length ≤ 4611686018427387904) : Calls Try.prog 6 #[.slice a n c] X (PostC X (fun i => l.getD i 0) l.length) := by
  by_cases hx : 1048576 < l.length
  · have hn : n = l.length := by
      unfold Ow at h
      rcases h.2 with ⟨hv, h0⟩ | ⟨g', cap, cur, hv, _⟩
      · injection hv with _ e _; rw [e, h0]
      · injection hv
    rw [hn]
    exact rdecode_long2 X a l.length c _ hx hl
  · obtain ⟨h1, h2, h3⟩ := ow_src h hb (by omega)
    rw [h2] at h1 h3 ⊢
    exact rdecode_any X a l.length c _ h1 h3
theorem getd_by {l : List Int} (h : AllB l) (i : Nat) : 0 ≤ l.getD i 0 ∧ l.getD i 0 ≤ 255 := by
  by_cases hi : i < l.length
  · have hm : l.getD i 0 ∈ l := by rw [List.getD_eq_getElem?_getD, List.getElem?_eq_getElem hi]; exact List.getElem_mem hi
    exact h _ hm
  · rw [List.getD_eq_getElem?_getD, List.getElem?_eq_none (by omega)]
    exact ⟨by show (0 : Int) ≤ 0; omega, by show (0 : Int) ≤ 255; omega⟩
theorem bl_by {f : Nat → Int} {n : Nat} (h : Oct f n) : AllB (bl f n) := fun x hx => by
  unfold bl at hx
  simp at hx
  obtain ⟨i, hi, rfl⟩ := hx
  exact h i hi
theorem mark_by : AllB markL := by
  intro x hx
  unfold markL at hx
  simp at hx
  omega
theorem rdb_cells {X : World} {g : Nat} {l : List Int} (hb : AllB l) (hl : l.length ≤ maxLen) (hc : ∀ i, i < l.length → X.cell? ⟨g, i, none⟩ = some (.int .u8 (l.getD i 0))) : RdB X (some ⟨g, 0, none⟩) l.length (fun i => l.getD i 0) :=
  ⟨hl, .inr ⟨g, 0, rfl, fun i hi => ⟨by rw [Nat.zero_add]; exact hc i hi, getd_by hb i⟩⟩⟩
/-- The mark, and bytes behind it. -/
theorem mark_app (X : World) (a : Option Addr) (len cap : Nat) (f : Nat → Int) (h : Src X a len cap f) : ∃ (g c : Nat) (Y : World), (appN #[22, 22] 22 #[.slice (some ⟨X.heap.size, 0, none⟩) 4 4, .slice a len cap]).run Try.prog (mkW X) = .ok (.slice (some ⟨g, 0, none⟩) (len + 4) c) Y ∧ Hid (RdB Y (some ⟨g, 0, none⟩) (len + 4) (fun i => (markL ++ bl f len).getD i 0) ∧ g < Y.heap.size ∧ Below X.heap.size X Y) := by
  have hfit := h.fit
  have hall : AllB (markL ++ bl f len) := mark_by.app (bl_by h.oct)
  have hlen : (markL ++ bl f len).length = len + 4 := by rw [List.length_append, bl_len]; show 4 + len = len + 4; omega
  by_cases h0 : len = 0
  · subst h0
    obtain ⟨i0, hi0, hz0, hz1, hz2⟩ := info_parts info5
    refine ⟨X.heap.size, 4, mkW X, ?_, ?_, by rw [mk_size]; omega, mk_below X⟩
    · unfold appN
      cases a with
      | none => simp [Builtin.append_, run_underlying Try.underlying22, sizeOf, typeInfo, hi0, hz1, Builtin.lenOf, run_firstCells_none, storeCells, Addr.add_lit]
      | some ad => simp [Builtin.append_, run_underlying Try.underlying22, sizeOf, typeInfo, hi0, hz1, Builtin.lenOf, Builtin.firstCells, loadCells, loadCellsFrom, storeCells, Addr.add_lit]
    · have := rdb_cells (X := mkW X) (g := X.heap.size) hall (by rw [hlen]; unfold maxLen; omega) (fun i hi => by
        have hi4 : i < 4 := by omega
        have := mk_cell X i (.int .u8 ((markL ++ bl f 0).getD i 0)) (by
          match i, hi4 with
          | 0, _ => rfl
          | 1, _ => rfl
          | 2, _ => rfl
          | 3, _ => rfl)
        rw [Go.WideShapes.add_plain, Nat.zero_add] at this
        exact this)
      rw [hlen] at this
      exact this
  · obtain ⟨b, off, rfl⟩ := h.some (by omega)
    obtain ⟨v', Y, r1, r2, r3⟩ := app_full (X := mkW X) (B := X.heap.size) (by rw [mk_size]; omega) ⟨X.heap.size, 0, none⟩ markL (mk_cell X) ⟨b, off, none⟩ len cap (bl f len) (bl_len _ _) (src_cells (h.below (mk_below X))) (by omega) (by show 4 + len ≤ _; omega)
    obtain ⟨g, c2, hv, hg1, hg2⟩ := ow_at r2 (by intro e; rw [e] at hlen; simp at hlen)
    rw [hlen] at hv
    subst hv
    refine ⟨g, c2, Y, r1, ?_, (r2.lt g rfl).2, (mk_below X).trans (r3.mono (by rw [mk_size]; omega))⟩
    have := rdb_cells (X := Y) (g := g) hall (by rw [hlen]; unfold maxLen; omega) (fun i hi => (ow_cell r2 i hi).1)
    rw [hlen] at this
    exact this
/-- What is known of an answer. -/
def QC (X : World) (c : Oc) (er : Int) (o : Ob) : Prop := (er ≠ 0 → c = Oc.zero) ∧ (er = 0 → ∃ B, ObAt X B c o)
theorem QC.below {X Y : World} {c : Oc} {er : Int} {o : Ob} (h : QC X c er o) (hb : Below X.heap.size X Y) : QC Y c er o := ⟨h.1, fun e => by obtain ⟨B, hB⟩ := h.2 e; exact ⟨B, hB.below hb⟩⟩
theorem QC.put {Y Z : World} {c : Oc} {er : Int} {o : Ob} {k : Nat} (h : QC Y c er o) (hk : k = Y.heap.size) (t : Tq (Y.alloc zeroO) Z (fun x => x = k)) : QC Z c er o := ⟨h.1, fun e => by
  obtain ⟨B, hB⟩ := h.2 e
  have t2 : Tq Y Z (fun x => x = k) := (Tq.below (P := fun x => x = k) ((Below.refl _ _).alloc (Nat.le_refl _) _)).trans t
  exact ⟨B, hB.tq2 t2 (fun x hx => by omega)⟩⟩
theorem same_qc {X : World} {c d : Oc} {er : Int} {o : Ob} (h : QC X c er o) (g : QC X d er o) (hf : er = 0 → Few o) : Calls Try.prog 7 #[.agg c.cells, .agg d.cells] X fun e w' => e = .returned (.bool true) ∧ Below X.heap.size X w' := by
  by_cases he : er = 0
  · obtain ⟨B, hB⟩ := h.2 he
    obtain ⟨C, hC⟩ := g.2 he
    exact same_eq X c d o (hB.rd (hf he)) (hC.rd (hf he))
  · rw [h.1 he, g.1 he]
    exact same_zero X
end Go.Proofs.Ytepgifapepaheaa

namespace Go.Proofs.Ytepgifapepaheaa
set_option linter.unusedVariables false
set_option linter.unusedSimpArgs false
open Go.ChangeShapes Go.WideShapes Go.ChangeAt Go.RowKit
attribute [local go_sem ↓] loadO_seal storeO_seal appN_seal mkN_seal

/-- A row of the call's own, where a new block was filled. -/
theorem ow_put {Y Z : World} {B k : Nat} {v : Value} {l : List Int} (h : Ow Y B v l) (hk : k = Y.heap.size) (t : Tq (Y.alloc zeroO) Z (fun x => x = k)) : Ow Z B v l := by
  have t2 : Tq Y Z (fun x => x = k) := (Tq.below (P := fun x => x = k) ((Below.refl _ _).alloc (Nat.le_refl _) _)).trans t
  exact t2.own h fun g hg => by have := (World.ownsRow.lt h g hg).2; omega
theorem oat_put {X Y Z : World} {k j : Nat} {c : Oc} (h : OAt X k c) (hb : Below X.heap.size X Y) (hj : j = Y.heap.size) (t : Tq (Y.alloc zeroO) Z (fun x => x = j)) : OAt Z k c := by
  have hl := h.lt
  have hs := hb.size
  have h1 : OAt (Y.alloc zeroO) k c := (Below.heap_alloc _ _ _ (by omega)).trans ((hb.block k hl).trans h)
  exact h1.tq t (by omega)
end Go.Proofs.Ytepgifapepaheaa

namespace Go.Proofs.Ytepgifapepaheaa
set_option linter.unusedVariables false
open Go.ChangeShapes Go.WideShapes Go.ChangeAt Go.RowKit

/-- A row of n things of k cells is there, in a block from B up to U. -/
def Rz (X : World) (B U : Nat) (s : Sl) (k : Nat) (E : TypeId) : Prop := s.n = 0 ∨ ∃ (g : Nat) (cs : Array Value), s.a = some ⟨g, 0, none⟩ ∧ (s.n ≤ s.c ∧ s.c ≤ maxLen) ∧ B ≤ g ∧ g < U ∧ X.heap[g]? = some (.cells cs E (0, 0)) ∧ s.n * k ≤ cs.size
theorem Rz.of {X : World} {B : Nat} {E : TypeId} {k n : Nat} {s : Sl} {xs : List Value} (h : X.ownsRow B E k (.slice s.a s.n s.c) n xs) : Rz X B X.heap.size s k E := by
  rcases h.2 with ⟨hv, h0⟩ | ⟨g, cap, cur, hv, hB, hq, hc, hm, hs, hx⟩
  · injection hv with e1 e2 e3
    exact .inl (by omega)
  · injection hv with e1 e2 e3
    refine .inr ⟨g, cur, e1, ⟨by rw [e2, e3]; exact hc, by rw [e3]; exact hm⟩, hB, (Array.getElem?_eq_some_iff.1 hq).1, hq, ?_⟩
    rw [hs, e2]
    exact Nat.mul_le_mul_right k hc
theorem Rz.below {X Y : World} {B : Nat} {s : Sl} {k : Nat} {E : TypeId} (h : Rz X B X.heap.size s k E) (hb : Below X.heap.size X Y) : Rz Y B X.heap.size s k E := by
  rcases h with h0 | ⟨g, cs, e1, e2, e3, e4, e5, e6⟩
  · exact .inl h0
  · exact .inr ⟨g, cs, e1, e2, e3, e4, (hb.block g e4).trans e5, e6⟩
theorem Rz.set {X : World} {B U : Nat} {s : Sl} {k : Nat} {E : TypeId} (h : Rz X B U s k E) (d j : Nat) (u : Value) : Rz (X.setCell ⟨d, j, none⟩ u) B U s k E := by
  rcases h with h0 | ⟨g, cs, e1, e2, e3, e4, e5, e6⟩
  · exact .inl h0
  · by_cases hg : g = d
    · subst hg
      exact .inr ⟨g, _, e1, e2, e3, e4, Go.Joins.block_setCell e5 u, by rw [Array.size_setIfInBounds]; exact e6⟩
    · have t1 : Tq X (X.setCell ⟨d, j, none⟩ u) (fun y => y = d) := Tq.set rfl
      exact .inr ⟨g, cs, e1, e2, e3, e4, (t1.blk g (Array.getElem?_eq_some_iff.1 e5).1 hg).trans e5, e6⟩
/-- One cell of it. -/
theorem Rz.at {X : World} {B U : Nat} {s : Sl} {k i j : Nat} {E : TypeId} (h : Rz X B U s k E) (hi : i < s.n) (hj : j < k) : ∃ (g : Nat) (v : Value) (cs : Array Value), s.a = some ⟨g, 0, none⟩ ∧ (s.n ≤ s.c ∧ s.c ≤ maxLen) ∧ X.cell? ⟨g, i * k + j, none⟩ = some v ∧ X.frozen? ⟨g, i * k + j, none⟩ = false ∧ Hid (B ≤ g ∧ g < U ∧ X.heap[g]? = some (.cells cs E (0, 0))) := by
  rcases h with h0 | ⟨g, cs, e1, e2, e3, e4, e5, e6⟩
  · omega
  · have hle : (i + 1) * k ≤ s.n * k := Nat.mul_le_mul_right k hi
    rw [Nat.succ_mul] at hle
    have hlt : i * k + j < cs.size := by omega
    exact ⟨g, cs[i * k + j], cs, e1, e2, by rw [blk_cell e5]; exact Array.getElem?_eq_getElem hlt, blk_fz e5 _, e3, e4, e5⟩
/-- What stands while an object is spoiled. -/
structure Sp (X0 X : World) (ob B U : Nat) (c : Oc) : Prop where
  bx : OAt X ob c
  im : Rz X B U c.im 2 59
  co : Rz X B U c.co 1 24
  pr : Rz X B U c.pr 1 3
  na : Rz X B U c.na 1 9
  va : Rz X B U c.va 1 3
  sh : Rz X B U c.sh 1 3
  st : Rz X B U c.st 1 9
  ds : Rz X B U c.ds 3 54
  dt : ∀ (g : Nat), c.ds.a = some ⟨g, 0, none⟩ → ∀ i, i < c.ds.n → ∃ t : Sl, X.cell? ⟨g, i * 3 + 2, none⟩ = some (.slice t.a t.n t.c) ∧ Rz X B U t 1 3
  fx : Rz X B U c.fx 4 56
  tq : Tq X0 X (fun k => B ≤ k ∧ k < U)
theorem Sp.put {X0 X : World} {ob B U g j : Nat} {c : Oc} {cs : Array Value} {E : TypeId} (h : Sp X0 X ob B U c) (hg : B ≤ g ∧ g < U ∧ X.heap[g]? = some (.cells cs E (0, 0))) (hE : E ≠ 33) (hd : E = 54 → ∀ i, j ≠ i * 3 + 2) (u : Value) : Sp X0 (X.setCell ⟨g, j, none⟩ u) ob B U c := by
  obtain ⟨g1, g2, g3⟩ := hg
  have t1 : Tq X (X.setCell ⟨g, j, none⟩ u) (fun y => y = g) := Tq.set rfl
  have hob : ob ≠ g := by
    rintro rfl
    have := h.bx
    unfold OAt at this
    rw [g3] at this
    injection this with this
    injection this with _ this _
    exact hE this
  refine ⟨h.bx.tq t1 hob, h.im.set _ _ _, h.co.set _ _ _, h.pr.set _ _ _, h.na.set _ _ _, h.va.set _ _ _, h.sh.set _ _ _, h.st.set _ _ _, h.ds.set _ _ _, fun gd e i hi => ?_, h.fx.set _ _ _, h.tq.trans (t1.mono fun k _ e => by rw [e]; exact ⟨g1, g2⟩)⟩
  obtain ⟨t, c1, c2⟩ := h.dt gd e i hi
  refine ⟨t, ?_, c2.set _ _ _⟩
  rcases h.ds with h0 | ⟨gx, cx, e1, e2, e3, e4, e5, e6⟩
  · omega
  · rw [e] at e1
    injection e1 with e1; injection e1 with e1
    subst e1
    by_cases hh : gd = g
    · subst hh
      rw [g3] at e5
      injection e5 with e5
      injection e5 with _ e5 _
      rw [blk_cell (Go.Joins.block_setCell g3 u), Array.getElem?_setIfInBounds_ne (hd e5 i)]
      rw [blk_cell g3] at c1
      exact c1
    · exact (World.cell?_of_block (a := ⟨gd, i * 3 + 2, none⟩) (t1.blk gd (Array.getElem?_eq_some_iff.1 e5).1 hh)).trans c1
theorem Sp.tags {X0 X : World} {ob B U i : Nat} {c : Oc} (h : Sp X0 X ob B U c) (hi : i < c.ds.n) : ∃ (g : Nat) (t : Sl), c.ds.a = some ⟨g, 0, none⟩ ∧ (c.ds.n ≤ c.ds.c ∧ c.ds.c ≤ maxLen) ∧ X.cell? ⟨g, i * 3 + 2, none⟩ = some (.slice t.a t.n t.c) ∧ Hid (Rz X B U t 1 3) := by
  rcases h.ds with h0 | ⟨g, cs, e1, e2, e3, e4, e5, e6⟩
  · omega
  · obtain ⟨t, c1, c2⟩ := h.dt g e1 i hi
    exact ⟨g, t, e1, e2, c1, c2⟩
theorem Sp.tput {X0 X : World} {ob B U g i k : Nat} {c : Oc} {t : Sl} (h : Sp X0 X ob B U c) (hg : c.ds.a = some ⟨g, 0, none⟩) (hi : i < c.ds.n) (hc : X.cell? ⟨g, i * 3 + 2, none⟩ = some (.slice t.a t.n t.c)) (hr : Rz X B U t 1 3) (hk : k < t.n) : ∃ (gt : Nat) (v : Value), t.a = some ⟨gt, 0, none⟩ ∧ (t.n ≤ t.c ∧ t.c ≤ maxLen) ∧ X.cell? ⟨gt, k, none⟩ = some v ∧ X.frozen? ⟨gt, k, none⟩ = false ∧ Hid (Sp X0 (X.setCell ⟨gt, k, none⟩ (.int .i64 (-7))) ob B U c ∧ (X.setCell ⟨gt, k, none⟩ (.int .i64 (-7))).cell? ⟨g, i * 3 + 2, none⟩ = some (.slice t.a t.n t.c) ∧ Rz (X.setCell ⟨gt, k, none⟩ (.int .i64 (-7))) B U t 1 3) := by
  obtain ⟨gt, v, cs, a1, a2, a3, a4, a5⟩ := hr.at (i := k) (j := 0) hk (by omega)
  rw [Nat.mul_one, Nat.add_zero] at a3 a4
  refine ⟨gt, v, a1, a2, a3, a4, h.put a5.out (by decide) (fun e => absurd e (by decide)) _, ?_, hr.set _ _ _⟩
  rcases h.ds with h0 | ⟨gx, cx, e1, e2, e3, e4, e5, e6⟩
  · omega
  · rw [hg] at e1
    injection e1 with e1; injection e1 with e1
    subst e1
    have hne : g ≠ gt := by
      rintro rfl
      have := a5.out.2.2
      rw [e5] at this
      injection this with this
      injection this with _ this _
      exact absurd this (by decide)
    have t1 : Tq X (X.setCell ⟨gt, k, none⟩ (.int .i64 (-7))) (fun y => y = gt) := Tq.set rfl
    exact (World.cell?_of_block (a := ⟨g, i * 3 + 2, none⟩) (t1.blk g (Array.getElem?_eq_some_iff.1 e5).1 hne)).trans hc
end Go.Proofs.Ytepgifapepaheaa

namespace Go.Proofs.Ytepgifapepaheaa
set_option linter.unusedVariables false
set_option linter.unusedSimpArgs false
open Go.ChangeShapes Go.WideShapes Go.ChangeAt Go.RowKit
attribute [local go_sem ↓] loadO_seal storeO_seal appN_seal
set_option maxHeartbeats 40000000 in
set_option maxRecDepth 20000 in
theorem spoil_of (w : World) (c : Oc) (B U : Nat) (h : Sp w (w.alloc (.cells c.cells 33)) w.heap.size B U c) : Calls Try.prog 8 #[.agg c.cells] w fun e w' => e = .returned (.tuple #[]) ∧ Tq w w' (fun k => B ≤ k ∧ k < U) := by
  obtain ⟨X0, hX0⟩ : ∃ X0, X0 = w := ⟨_, rfl⟩
  have S0 : Hid (Sp X0 (w.alloc (.cells c.cells 33)) w.heap.size B U c) := hid_of (by rw [hX0]; exact h)
  have FIN : Hid (∀ Y, Sp X0 Y w.heap.size B U c → Tq w Y (fun k => B ≤ k ∧ k < U)) := hid_of fun Y hY => by rw [← hX0]; exact hY.tq
  clear h
  go_enter Try.func8, Try.ntmps8
  go_upto_block 0 with fail
  go_cut [2] (fun s_ X => Hid (Sp X0 X w.heap.size B U c))
  case first =>
    go_wp2_with fail
    go_loopg [2] c.im.n (fun gf s_ wx => ∃ (i : Nat), s_ = .int .i64 (i : Int) ∧ i + gf = c.im.n ∧ Hid (Sp X0 wx w.heap.size B U c))
    case atStart => exact ⟨0, rfl, by omega, S0.out⟩
    case round =>
      clear S0
      obtain ⟨i, rfl, hi, HS⟩ := hrel
      have kc : wr.cell? ⟨w.heap.size, 2, none⟩ = some (.slice c.im.a c.im.n c.im.c) := blk_cell HS.out.bx 2
      by_cases hlt : i < c.im.n
      rotate_left
      · have d1 : decide ((i : Int) < (c.im.n : Int)) = false := decide_eq_false (by omega)
        have d0 : ¬ (i < c.im.n) := hlt
        go_wp2
        go_meet
        exact HS.out
      have d1 : decide ((i : Int) < (c.im.n : Int)) = true := decide_eq_true (by omega)
      obtain ⟨g, v, cs, ga, gc, cl, fz, HG⟩ := HS.out.im.at (i := i) (j := 0) hlt (by omega)
      have HN : Hid (Sp X0 (wr.setCell ⟨g, i * 2 + 0, none⟩ (.string ⟨#[109, 105, 110, 101]⟩)) w.heap.size B U c) := hid_of (HS.out.put HG.out (by decide) (fun e => absurd e (by decide)) _)
      rw [ga] at kc
      simp only [Nat.mul_one, Nat.add_zero] at cl fz HN
      obtain ⟨g', rfl⟩ : ∃ g', gk = g' + 1 := ⟨gk - 1, by omega⟩
      have hw : wrap64 ((i : Int) + 1) = (i : Int) + 1 := by have := gc.2; unfold maxLen at this; rw [IntWalk.wrap64_in] <;> omega
      have gc := gc.1
      clear HG ga
      go_wp2_with fail
      go_roundg g'
      case measure => omega
      case rel => exact ⟨i + 1, by simp [hw], by omega, HN.out⟩
  case rest =>
    have S1 := hid_of hcut.out
    clear hcut S0
    go_upto_block 2 with fail
    go_cut [3] (fun s_ X => Hid (Sp X0 X w.heap.size B U c))
    case first =>
      go_wp2_with fail
      go_loopg [3] c.co.n (fun gf s_ wx => ∃ (i : Nat), s_ = .int .i64 (i : Int) ∧ i + gf = c.co.n ∧ Hid (Sp X0 wx w.heap.size B U c))
      case atStart => exact ⟨0, rfl, by omega, S1.out⟩
      case round =>
        clear S1
        obtain ⟨i, rfl, hi, HS⟩ := hrel
        have kc : wr.cell? ⟨w.heap.size, 3, none⟩ = some (.slice c.co.a c.co.n c.co.c) := blk_cell HS.out.bx 3
        by_cases hlt : i < c.co.n
        rotate_left
        · have d1 : decide ((i : Int) < (c.co.n : Int)) = false := decide_eq_false (by omega)
          have d0 : ¬ (i < c.co.n) := hlt
          go_wp2
          go_meet
          exact HS.out
        have d1 : decide ((i : Int) < (c.co.n : Int)) = true := decide_eq_true (by omega)
        obtain ⟨g, v, cs, ga, gc, cl, fz, HG⟩ := HS.out.co.at (i := i) (j := 0) hlt (by omega)
        have HN : Hid (Sp X0 (wr.setCell ⟨g, i * 1 + 0, none⟩ (.int .u32 77)) w.heap.size B U c) := hid_of (HS.out.put HG.out (by decide) (fun e => absurd e (by decide)) _)
        rw [ga] at kc
        simp only [Nat.mul_one, Nat.add_zero] at cl fz HN
        obtain ⟨g', rfl⟩ : ∃ g', gk = g' + 1 := ⟨gk - 1, by omega⟩
        have hw : wrap64 ((i : Int) + 1) = (i : Int) + 1 := by have := gc.2; unfold maxLen at this; rw [IntWalk.wrap64_in] <;> omega
        have gc := gc.1
        clear HG ga
        go_wp2_with fail
        go_roundg g'
        case measure => omega
        case rel => exact ⟨i + 1, by simp [hw], by omega, HN.out⟩
    case rest =>
      have S2 := hid_of hcut.out
      clear hcut S1
      go_upto_block 4 with fail
      go_cut [4] (fun s_ X => Hid (Sp X0 X w.heap.size B U c))
      case first =>
        go_wp2_with fail
        go_loopg [4] c.pr.n (fun gf s_ wx => ∃ (i : Nat), s_ = .int .i64 (i : Int) ∧ i + gf = c.pr.n ∧ Hid (Sp X0 wx w.heap.size B U c))
        case atStart => exact ⟨0, rfl, by omega, S2.out⟩
        case round =>
          clear S2
          obtain ⟨i, rfl, hi, HS⟩ := hrel
          have kc : wr.cell? ⟨w.heap.size, 4, none⟩ = some (.slice c.pr.a c.pr.n c.pr.c) := blk_cell HS.out.bx 4
          by_cases hlt : i < c.pr.n
          rotate_left
          · have d1 : decide ((i : Int) < (c.pr.n : Int)) = false := decide_eq_false (by omega)
            have d0 : ¬ (i < c.pr.n) := hlt
            go_wp2
            go_meet
            exact HS.out
          have d1 : decide ((i : Int) < (c.pr.n : Int)) = true := decide_eq_true (by omega)
          obtain ⟨g, v, cs, ga, gc, cl, fz, HG⟩ := HS.out.pr.at (i := i) (j := 0) hlt (by omega)
          have HN : Hid (Sp X0 (wr.setCell ⟨g, i * 1 + 0, none⟩ (.int .i64 (-7))) w.heap.size B U c) := hid_of (HS.out.put HG.out (by decide) (fun e => absurd e (by decide)) _)
          rw [ga] at kc
          simp only [Nat.mul_one, Nat.add_zero] at cl fz HN
          obtain ⟨g', rfl⟩ : ∃ g', gk = g' + 1 := ⟨gk - 1, by omega⟩
          have hw : wrap64 ((i : Int) + 1) = (i : Int) + 1 := by have := gc.2; unfold maxLen at this; rw [IntWalk.wrap64_in] <;> omega
          have gc := gc.1
          clear HG ga
          go_wp2_with fail
          go_roundg g'
          case measure => omega
          case rel => exact ⟨i + 1, by simp [hw], by omega, HN.out⟩
      case rest =>
        have S3 := hid_of hcut.out
        clear hcut S2
        go_upto_block 6 with fail
        go_cut [5] (fun s_ X => Hid (Sp X0 X w.heap.size B U c))
        case first =>
          go_wp2_with fail
          go_loopg [5] c.na.n (fun gf s_ wx => ∃ (i : Nat), s_ = .int .i64 (i : Int) ∧ i + gf = c.na.n ∧ Hid (Sp X0 wx w.heap.size B U c))
          case atStart => exact ⟨0, rfl, by omega, S3.out⟩
          case round =>
            clear S3
            obtain ⟨i, rfl, hi, HS⟩ := hrel
            have kc : wr.cell? ⟨w.heap.size, 5, none⟩ = some (.slice c.na.a c.na.n c.na.c) := blk_cell HS.out.bx 5
            by_cases hlt : i < c.na.n
            rotate_left
            · have d1 : decide ((i : Int) < (c.na.n : Int)) = false := decide_eq_false (by omega)
              have d0 : ¬ (i < c.na.n) := hlt
              go_wp2
              go_meet
              exact HS.out
            have d1 : decide ((i : Int) < (c.na.n : Int)) = true := decide_eq_true (by omega)
            obtain ⟨g, v, cs, ga, gc, cl, fz, HG⟩ := HS.out.na.at (i := i) (j := 0) hlt (by omega)
            have HN : Hid (Sp X0 (wr.setCell ⟨g, i * 1 + 0, none⟩ (.string ⟨#[109, 105, 110, 101]⟩)) w.heap.size B U c) := hid_of (HS.out.put HG.out (by decide) (fun e => absurd e (by decide)) _)
            rw [ga] at kc
            simp only [Nat.mul_one, Nat.add_zero] at cl fz HN
            obtain ⟨g', rfl⟩ : ∃ g', gk = g' + 1 := ⟨gk - 1, by omega⟩
            have hw : wrap64 ((i : Int) + 1) = (i : Int) + 1 := by have := gc.2; unfold maxLen at this; rw [IntWalk.wrap64_in] <;> omega
            have gc := gc.1
            clear HG ga
            go_wp2_with fail
            go_roundg g'
            case measure => omega
            case rel => exact ⟨i + 1, by simp [hw], by omega, HN.out⟩
        case rest =>
          have S4 := hid_of hcut.out
          clear hcut S3
          go_upto_block 8 with fail
          go_cut [6] (fun s_ X => Hid (Sp X0 X w.heap.size B U c))
          case first =>
            go_wp2_with fail
            go_loopg [6] c.va.n (fun gf s_ wx => ∃ (i : Nat), s_ = .int .i64 (i : Int) ∧ i + gf = c.va.n ∧ Hid (Sp X0 wx w.heap.size B U c))
            case atStart => exact ⟨0, rfl, by omega, S4.out⟩
            case round =>
              clear S4
              obtain ⟨i, rfl, hi, HS⟩ := hrel
              have kc : wr.cell? ⟨w.heap.size, 8, none⟩ = some (.slice c.va.a c.va.n c.va.c) := blk_cell HS.out.bx 8
              by_cases hlt : i < c.va.n
              rotate_left
              · have d1 : decide ((i : Int) < (c.va.n : Int)) = false := decide_eq_false (by omega)
                have d0 : ¬ (i < c.va.n) := hlt
                go_wp2
                go_meet
                exact HS.out
              have d1 : decide ((i : Int) < (c.va.n : Int)) = true := decide_eq_true (by omega)
              obtain ⟨g, v, cs, ga, gc, cl, fz, HG⟩ := HS.out.va.at (i := i) (j := 0) hlt (by omega)
              have HN : Hid (Sp X0 (wr.setCell ⟨g, i * 1 + 0, none⟩ (.int .i64 (-7))) w.heap.size B U c) := hid_of (HS.out.put HG.out (by decide) (fun e => absurd e (by decide)) _)
              rw [ga] at kc
              simp only [Nat.mul_one, Nat.add_zero] at cl fz HN
              obtain ⟨g', rfl⟩ : ∃ g', gk = g' + 1 := ⟨gk - 1, by omega⟩
              have hw : wrap64 ((i : Int) + 1) = (i : Int) + 1 := by have := gc.2; unfold maxLen at this; rw [IntWalk.wrap64_in] <;> omega
              have gc := gc.1
              clear HG ga
              go_wp2_with fail
              go_roundg g'
              case measure => omega
              case rel => exact ⟨i + 1, by simp [hw], by omega, HN.out⟩
          case rest =>
            have S5 := hid_of hcut.out
            clear hcut S4
            go_upto_block 10 with fail
            go_cut [7] (fun s_ X => Hid (Sp X0 X w.heap.size B U c))
            case first =>
              go_wp2_with fail
              go_loopg [7] c.sh.n (fun gf s_ wx => ∃ (i : Nat), s_ = .int .i64 (i : Int) ∧ i + gf = c.sh.n ∧ Hid (Sp X0 wx w.heap.size B U c))
              case atStart => exact ⟨0, rfl, by omega, S5.out⟩
              case round =>
                clear S5
                obtain ⟨i, rfl, hi, HS⟩ := hrel
                have kc : wr.cell? ⟨w.heap.size, 9, none⟩ = some (.slice c.sh.a c.sh.n c.sh.c) := blk_cell HS.out.bx 9
                by_cases hlt : i < c.sh.n
                rotate_left
                · have d1 : decide ((i : Int) < (c.sh.n : Int)) = false := decide_eq_false (by omega)
                  have d0 : ¬ (i < c.sh.n) := hlt
                  go_wp2
                  go_meet
                  exact HS.out
                have d1 : decide ((i : Int) < (c.sh.n : Int)) = true := decide_eq_true (by omega)
                obtain ⟨g, v, cs, ga, gc, cl, fz, HG⟩ := HS.out.sh.at (i := i) (j := 0) hlt (by omega)
                have HN : Hid (Sp X0 (wr.setCell ⟨g, i * 1 + 0, none⟩ (.int .i64 (-7))) w.heap.size B U c) := hid_of (HS.out.put HG.out (by decide) (fun e => absurd e (by decide)) _)
                rw [ga] at kc
                simp only [Nat.mul_one, Nat.add_zero] at cl fz HN
                obtain ⟨g', rfl⟩ : ∃ g', gk = g' + 1 := ⟨gk - 1, by omega⟩
                have hw : wrap64 ((i : Int) + 1) = (i : Int) + 1 := by have := gc.2; unfold maxLen at this; rw [IntWalk.wrap64_in] <;> omega
                have gc := gc.1
                clear HG ga
                go_wp2_with fail
                go_roundg g'
                case measure => omega
                case rel => exact ⟨i + 1, by simp [hw], by omega, HN.out⟩
            case rest =>
              have S6 := hid_of hcut.out
              clear hcut S5
              go_upto_block 12 with fail
              go_cut [8] (fun s_ X => Hid (Sp X0 X w.heap.size B U c))
              case first =>
                go_wp2_with fail
                go_loopg [8] c.st.n (fun gf s_ wx => ∃ (i : Nat), s_ = .int .i64 (i : Int) ∧ i + gf = c.st.n ∧ Hid (Sp X0 wx w.heap.size B U c))
                case atStart => exact ⟨0, rfl, by omega, S6.out⟩
                case round =>
                  clear S6
                  obtain ⟨i, rfl, hi, HS⟩ := hrel
                  have kc : wr.cell? ⟨w.heap.size, 10, none⟩ = some (.slice c.st.a c.st.n c.st.c) := blk_cell HS.out.bx 10
                  by_cases hlt : i < c.st.n
                  rotate_left
                  · have d1 : decide ((i : Int) < (c.st.n : Int)) = false := decide_eq_false (by omega)
                    have d0 : ¬ (i < c.st.n) := hlt
                    go_wp2
                    go_meet
                    exact HS.out
                  have d1 : decide ((i : Int) < (c.st.n : Int)) = true := decide_eq_true (by omega)
                  obtain ⟨g, v, cs, ga, gc, cl, fz, HG⟩ := HS.out.st.at (i := i) (j := 0) hlt (by omega)
                  have HN : Hid (Sp X0 (wr.setCell ⟨g, i * 1 + 0, none⟩ (.string ⟨#[109, 105, 110, 101]⟩)) w.heap.size B U c) := hid_of (HS.out.put HG.out (by decide) (fun e => absurd e (by decide)) _)
                  rw [ga] at kc
                  simp only [Nat.mul_one, Nat.add_zero] at cl fz HN
                  obtain ⟨g', rfl⟩ : ∃ g', gk = g' + 1 := ⟨gk - 1, by omega⟩
                  have hw : wrap64 ((i : Int) + 1) = (i : Int) + 1 := by have := gc.2; unfold maxLen at this; rw [IntWalk.wrap64_in] <;> omega
                  have gc := gc.1
                  clear HG ga
                  go_wp2_with fail
                  go_roundg g'
                  case measure => omega
                  case rel => exact ⟨i + 1, by simp [hw], by omega, HN.out⟩
              case rest =>
                have S7 := hid_of hcut.out
                clear hcut S6
                go_upto_block 14 with fail
                go_cut [9] (fun s_ X => Hid (Sp X0 X w.heap.size B U c))
                case first =>
                  go_wp2_with fail
                  go_loopg [9] c.ds.n (fun gf s_ wx => ∃ (i : Nat), s_ = .int .i64 (i : Int) ∧ i + gf = c.ds.n ∧ Hid (Sp X0 wx w.heap.size B U c))
                  case atStart => exact ⟨0, rfl, by omega, S7.out⟩
                  case round =>
                    clear S7
                    obtain ⟨i, rfl, hi, HS⟩ := hrel
                    have kc : wr.cell? ⟨w.heap.size, 11, none⟩ = some (.slice c.ds.a c.ds.n c.ds.c) := blk_cell HS.out.bx 11
                    by_cases hlt : i < c.ds.n
                    rotate_left
                    · have d1 : decide ((i : Int) < (c.ds.n : Int)) = false := decide_eq_false (by omega)
                      have d0 : ¬ (i < c.ds.n) := hlt
                      go_wp2
                      go_meet
                      exact HS.out
                    have d1 : decide ((i : Int) < (c.ds.n : Int)) = true := decide_eq_true (by omega)
                    obtain ⟨g, t, ga, gc, ct, HT⟩ := HS.out.tags hlt
                    obtain ⟨g', rfl⟩ : ∃ g', gk = g' + 1 := ⟨gk - 1, by omega⟩
                    have HW : Hid (wrap64 ((i : Int) + 1) = (i : Int) + 1) := hid_of (by have := gc.2; unfold maxLen at this; rw [IntWalk.wrap64_in] <;> omega)
                    have gc := gc.1
                    have GA := hid_of ga
                    rw [ga] at kc
                    clear ga
                    go_upto_block 16 with fail
                    have H0 := hid_of (And.intro HS.out (And.intro ct HT.out))
                    clear HS HT ct kc
                    go_cut [10] from 90 to 120 (fun s_ X => Hid (Sp X0 X w.heap.size B U c))
                    case first =>
                      go_wp2_with fail
                      go_loopg [10] t.n (fun gf s_ wx => ∃ (k : Nat), s_ = .int .i64 (k : Int) ∧ k + gf = t.n ∧ Hid (Sp X0 wx w.heap.size B U c ∧ wx.cell? ⟨g, i * 3 + 2, none⟩ = some (.slice t.a t.n t.c) ∧ Rz wx B U t 1 3))
                      case atStart => exact ⟨0, rfl, by omega, H0.out⟩
                      case round =>
                        clear H0
                        obtain ⟨k, rfl, hk, HK⟩ := hrel
                        have kc : wr.cell? ⟨w.heap.size, 11, none⟩ = some (.slice c.ds.a c.ds.n c.ds.c) := blk_cell HK.out.1.bx 11
                        rw [GA.out] at kc
                        have ct := HK.out.2.1
                        by_cases hlk : k < t.n
                        rotate_left
                        · have d2 : decide ((k : Int) < (t.n : Int)) = false := decide_eq_false (by omega)
                          have d0 : ¬ (k < t.n) := hlk
                          have FF := hid_of HK.out.1
                          clear HK
                          go_wp2
                          go_meet
                          exact FF.out
                        have d2 : decide ((k : Int) < (t.n : Int)) = true := decide_eq_true (by omega)
                        obtain ⟨gt, v, ta, tc, cl, fz, HN⟩ := HK.out.1.tput GA.out hlt ct HK.out.2.2 hlk
                        obtain ⟨g2, rfl⟩ : ∃ g2, gk = g2 + 1 := ⟨gk - 1, by omega⟩
                        have hv : wrap64 ((k : Int) + 1) = (k : Int) + 1 := by have := tc.2; unfold maxLen at this; rw [IntWalk.wrap64_in] <;> omega
                        have tc := tc.1
                        rw [ta] at ct
                        clear HK ta
                        go_wp2_with fail
                        go_roundg g2
                        case measure => omega
                        case rel => exact ⟨k + 1, by simp [hv], by omega, HN.out⟩
                    case rest =>
                      have HS := hid_of hcut.out
                      clear hcut H0
                      have kc : wc.cell? ⟨w.heap.size, 11, none⟩ = some (.slice c.ds.a c.ds.n c.ds.c) := blk_cell HS.out.bx 11
                      obtain ⟨gd, v, cs, ga, gc2, cl, fz, HG⟩ := HS.out.ds.at (i := i) (j := 1) hlt (by omega)
                      have HN : Hid (Sp X0 (wc.setCell ⟨gd, i * 3 + 1, none⟩ (.int .i64 (-7))) w.heap.size B U c) := hid_of (HS.out.put HG.out (by decide) (fun _ i' => by omega) _)
                      rw [ga] at kc
                      have hw := HW.out
                      clear HG ga HS gc2 HW
                      go_wp2_with fail
                      go_roundg g'
                      case measure => omega
                      case rel => exact ⟨i + 1, by simp [hw], by omega, HN.out⟩
                case rest =>
                  have S8 := hid_of hcut.out
                  clear hcut S7
                  go_upto_block 18 with fail
                  go_wp2_with fail
                  go_loopg [11] c.fx.n (fun gf s_ wx => ∃ (i : Nat), s_ = .int .i64 (i : Int) ∧ i + gf = c.fx.n ∧ Hid (Sp X0 wx w.heap.size B U c))
                  case atStart => exact ⟨0, rfl, by omega, S8.out⟩
                  case round =>
                    clear S8
                    obtain ⟨i, rfl, hi, HS⟩ := hrel
                    have kc : wr.cell? ⟨w.heap.size, 12, none⟩ = some (.slice c.fx.a c.fx.n c.fx.c) := blk_cell HS.out.bx 12
                    by_cases hlt : i < c.fx.n
                    rotate_left
                    · have d1 : decide ((i : Int) < (c.fx.n : Int)) = false := decide_eq_false (by omega)
                      have d0 : ¬ (i < c.fx.n) := hlt
                      go_wp2
                      go_end0
                      exact ⟨rfl, FIN.out _ HS.out⟩
                    have d1 : decide ((i : Int) < (c.fx.n : Int)) = true := decide_eq_true (by omega)
                    obtain ⟨g, v, cs, ga, gc, cl, fz, HG⟩ := HS.out.fx.at (i := i) (j := 0) hlt (by omega)
                    have HN : Hid (Sp X0 (wr.setCell ⟨g, i * 4 + 0, none⟩ (.int .i64 (-7))) w.heap.size B U c) := hid_of (HS.out.put HG.out (by decide) (fun e => absurd e (by decide)) _)
                    rw [ga] at kc
                    simp only [Nat.mul_one, Nat.add_zero] at cl fz HN
                    obtain ⟨g', rfl⟩ : ∃ g', gk = g' + 1 := ⟨gk - 1, by omega⟩
                    have hw : wrap64 ((i : Int) + 1) = (i : Int) + 1 := by have := gc.2; unfold maxLen at this; rw [IntWalk.wrap64_in] <;> omega
                    have gc := gc.1
                    clear HG ga
                    go_wp2_with fail
                    go_roundg g'
                    case measure => omega
                    case rel => exact ⟨i + 1, by simp [hw], by omega, HN.out⟩
end Go.Proofs.Ytepgifapepaheaa

namespace Go.Proofs.Ytepgifapepaheaa
set_option linter.unusedVariables false
set_option linter.unusedSimpArgs false
open Go.ChangeShapes Go.WideShapes Go.ChangeAt Go.RowKit

/-- The same bytes, told by their list. -/
theorem src_bl {w : World} {a : Option Addr} {len cap : Nat} {f : Nat → Int} (h : Src w a len cap f) : Src w a len cap (fun i => (bl f len).getD i 0) := by
  refine ⟨⟨h.rd.1, ?_⟩, h.nil, h.fit⟩
  rcases h.rd.2 with h0 | ⟨b, off, e, hc⟩
  · exact .inl h0
  · exact .inr ⟨b, off, e, fun i hi => by have := hc i hi; rw [← bl_get f len i hi] at this; exact this⟩
/-- What is known of the first answer: its rows lie in blocks from V up to U. -/
def NC (X : World) (c : Oc) (er : Int) (o : Ob) (V U : Nat) : Prop := (er ≠ 0 → c = Oc.zero) ∧ (er = 0 → ∃ (Y : World) (B : Nat), Y.heap.size = U ∧ V ≤ B ∧ ObAt Y B c o ∧ Below Y.heap.size Y X)
theorem NC.below {X Z : World} {c : Oc} {er : Int} {o : Ob} {V U : Nat} (h : NC X c er o V U) (hb : Below X.heap.size X Z) : NC Z c er o V U := ⟨h.1, fun e => by
  obtain ⟨Y, B, h1, h2, h3, h4⟩ := h.2 e
  exact ⟨Y, B, h1, h2, h3, h4.trans (hb.mono h4.size)⟩⟩
theorem NC.qc {X : World} {c : Oc} {er : Int} {o : Ob} {V U : Nat} (h : NC X c er o V U) : QC X c er o := ⟨h.1, fun e => by
  obtain ⟨Y, B, h1, h2, h3, h4⟩ := h.2 e
  exact ⟨B, h3.below h4⟩⟩
/-- An object of the call's own is spoiled: what lies elsewhere stays. -/
theorem nc_spoil {w : World} {c : Oc} {er : Int} {o : Ob} {V U : Nat} (h : NC w c er o V U) : Calls Try.prog 8 #[.agg c.cells] w fun e w' => e = .returned (.tuple #[]) ∧ Tq w w' (fun k => V ≤ k ∧ k < U) := by
  by_cases he : er = 0
  · obtain ⟨Y, B, h1, h2, h3, h4⟩ := h.2 he
    subst h1
    have hb : Below Y.heap.size Y (w.alloc (.cells c.cells 33)) := h4.alloc h4.size _
    obtain ⟨l, l1, l2, l3⟩ := h3.ds
    refine (spoil_of w c B Y.heap.size ⟨blk_new _ _, (Rz.of h3.im).below hb, (Rz.of h3.co).below hb, (Rz.of h3.pr).below hb, (Rz.of h3.na).below hb, (Rz.of h3.va).below hb, (Rz.of h3.sh).below hb, (Rz.of h3.st).below hb, (Rz.of l2).below hb, ?_, (Rz.of h3.fx).below hb, Tq.below ((Below.refl _ _).alloc (Nat.le_refl _) _)⟩).mono fun e w' hh => ⟨hh.1, hh.2.mono fun k _ hk => ⟨by have := hk.1; omega, hk.2⟩⟩
    intro g hg i hi
    have hn : c.ds.n = l.length := by
      rcases l2.2 with ⟨hv, h0⟩ | ⟨g', cap, cur, hv, _⟩
      · injection hv with _ e _; omega
      · injection hv
    have hi' : i < l.length := by omega
    have hp : l[i] ∈ l := List.getElem_mem hi'
    refine ⟨l[i].2, ?_, (Rz.of (l3 _ hp)).below hb⟩
    have hob : (Value.slice c.ds.a c.ds.n c.ds.c).ownBlock = some g := by simp [Value.ownBlock, hg]
    have hc := World.ownsRow.cells l2 (g := g) hob (i * 3 + 2) (.slice l[i].2.a l[i].2.n l[i].2.c) (by rw [flat_at dEnc 3 (fun _ => rfl) l i hi' 2 (by omega)]; rfl)
    rw [show (⟨g, 0, none⟩ : Addr).add (i * 3 + 2) = ⟨g, i * 3 + 2, none⟩ by simp [Addr.add]] at hc
    exact (World.cell?_of_block (a := ⟨g, i * 3 + 2, none⟩) (hb.block g (own_wlt l2 g hob))).trans hc
  · have hz := h.1 he
    subst hz
    exact (spoil_of w Oc.zero V U ⟨blk_new _ _, .inl rfl, .inl rfl, .inl rfl, .inl rfl, .inl rfl, .inl rfl, .inl rfl, .inl rfl, (fun g hg => by cases hg), .inl rfl, Tq.below ((Below.refl _ _).alloc (Nat.le_refl _) _)⟩).mono fun e w' hh => hh
/-- Behind the first answer. -/
structure F1 (w Z : World) (k1 : Nat) (c1 : Oc) (er : Int) (o : Ob) (v : Value) (L : List Int) (V U : Nat) : Prop where
  ob : OAt Z k1 c1
  nc : NC Z c1 er o V U
  be : Below w.heap.size w Z
  mi : Ow Z w.heap.size v L
  lo : ∀ g, v.ownBlock = some g → g < V
  ord : w.heap.size ≤ V ∧ V ≤ U ∧ U ≤ k1
theorem F1.below {w X Z : World} {k1 : Nat} {c1 : Oc} {er : Int} {o : Ob} {v : Value} {L : List Int} {V U : Nat} (h : F1 w X k1 c1 er o v L V U) (hb : Below X.heap.size X Z) : F1 w Z k1 c1 er o v L V U :=
  ⟨(hb.block k1 h.ob.lt).trans h.ob, h.nc.below hb, h.be.trans (hb.mono h.be.size), ow_below h.mi hb, h.lo, h.ord⟩
/-- The document's answer. -/
structure F2 (w Z : World) (k2 : Nat) (c2 : Oc) (er : Int) (o : Ob) (U : Nat) : Prop where
  ob : OAt Z k2 c2
  z : er ≠ 0 → c2 = Oc.zero
  at_ : er = 0 → ∃ B, U ≤ B ∧ ObAt Z B c2 o
  be : Below w.heap.size w Z
  lo : U ≤ k2
theorem F2.below {w X Z : World} {k2 : Nat} {c2 : Oc} {er : Int} {o : Ob} {U : Nat} (h : F2 w X k2 c2 er o U) (hb : Below X.heap.size X Z) : F2 w Z k2 c2 er o U :=
  ⟨(hb.block k2 h.ob.lt).trans h.ob, h.z, fun e => by obtain ⟨B, h1, h2⟩ := h.at_ e; exact ⟨B, h1, h2.below hb⟩, h.be.trans (hb.mono h.be.size), h.lo⟩
theorem F2.qc {w X : World} {k2 : Nat} {c2 : Oc} {er : Int} {o : Ob} {U : Nat} (h : F2 w X k2 c2 er o U) : QC X c2 er o := ⟨h.z, fun e => by obtain ⟨B, _, h2⟩ := h.at_ e; exact ⟨B, h2⟩⟩
theorem F2.tq {w X Z : World} {k2 : Nat} {c2 : Oc} {er : Int} {o : Ob} {V U : Nat} (h : F2 w X k2 c2 er o U) (hV : w.heap.size ≤ V) (t : Tq X Z (fun k => V ≤ k ∧ k < U)) : F2 w Z k2 c2 er o U :=
  ⟨h.ob.tq t (by have := h.lo; omega), h.z, fun e => by obtain ⟨B, h1, h2⟩ := h.at_ e; exact ⟨B, h1, h2.tq t fun k hk => by omega⟩, Below.of_tq h.be t fun k hk => by omega, h.lo⟩
/-- A new block filled behind all that was there. -/
theorem bel_put {Y Z : World} {k : Nat} (hk : k = Y.heap.size) (t : Tq (Y.alloc zeroO) Z (fun x => x = k)) : Below Y.heap.size Y Z := by
  have t2 : Tq Y Z (fun x => x = k) := (Tq.below (P := fun x => x = k) ((Below.refl _ _).alloc (Nat.le_refl _) _)).trans t
  exact ⟨t2.os, t2.tape, t2.output, t2.size, fun j hj => t2.blk j hj (by omega)⟩
end Go.Proofs.Ytepgifapepaheaa

namespace Go.Proofs.Ytepgifapepaheaa
set_option linter.unusedVariables false
set_option linter.unusedSimpArgs false
open Go.ChangeShapes Go.WideShapes Go.ChangeAt Go.RowKit
attribute [local go_sem ↓] loadO_seal storeO_seal appN_seal mkN_seal

/-- A row of bytes of the call's own, with room behind. -/
theorem mine_row (w X : World) (a : Option Addr) (len cap : Nat) (f : Nat → Int) (h : Src w a len cap f) (hX : Below w.heap.size w X) : ∃ (Y3 Y4 : World) (ga : Option Addr) (gn gc : Nat), (mkN 22 (.int .i64 0) (.int .i64 ((len : Int) + 8))).run Try.prog X = .ok (.slice (some ⟨X.heap.size, 0, none⟩) 0 (len + 8)) Y3 ∧ (appN #[22, 22] 22 #[.slice (some ⟨X.heap.size, 0, none⟩) 0 (len + 8), .slice a len cap]).run Try.prog Y3 = .ok (.slice ga gn gc) Y4 ∧ Hid (Ow Y4 w.heap.size (.slice ga gn gc) (bl f len) ∧ Below w.heap.size w Y4) := by
  have hfit := h.fit
  obtain ⟨Y3, r3, o3, g3⟩ := make_row X w.heap.size (len + 8) hX.size (by omega)
  have bY3 : Below w.heap.size w Y3 := hX.trans ((gb_none g3).mono hX.size)
  by_cases h0 : len = 0
  · subst h0
    obtain ⟨i0, hi0, hz0, hz1, hz2⟩ := info_parts info5
    refine ⟨Y3, Y3, some ⟨X.heap.size, 0, none⟩, 0, 0 + 8, by simpa using r3, ?_, o3, bY3⟩
    unfold appN
    cases a with
    | none => simp [Builtin.append_, run_underlying Try.underlying22, sizeOf, typeInfo, hi0, hz1, Builtin.lenOf, run_firstCells_none, storeCells, Addr.add_lit]
    | some ad => simp [Builtin.append_, run_underlying Try.underlying22, sizeOf, typeInfo, hi0, hz1, Builtin.lenOf, Builtin.firstCells, loadCells, loadCellsFrom, storeCells, Addr.add_lit]
  · obtain ⟨v4, Y4, r4, o4, g4⟩ := app_bytes (X := Y3) a len cap f o3 (h.below bY3).rd h.nil bY3.size (by simp; omega) (.inr (by omega))
    rw [List.nil_append] at o4
    obtain ⟨va, vn, vc, rfl⟩ := own_slice o4
    exact ⟨Y3, Y4, va, vn, vc, by simpa using r3, r4, o4, gb_low bY3 g4 (fun k e => own_lo o3 k e)⟩

set_option maxHeartbeats 8000000 in
set_option maxRecDepth 20000 in
theorem reads_any (w : World) (a : Option Addr) (len cap : Nat) (f : Nat → Int) (h : Src w a len cap f) (hcap : len ≤ cap) : Calls Try.prog 3 #[.slice a len cap] w fun e w' => e = .returned (.bool true) ∧ Below w.heap.size w w' := by
  have hfit := h.fit
  have SH : Hid (Calls Try.prog 4 #[] w _) := shown_any w
  have MK : Hid (∀ X, Below w.heap.size w X → _) := hid_of fun X hX => mine_row w X a len cap f h hX
  have hall : AllB (bl f len) := bl_by h.oct
  have hsF := src_bl h
  have hrd : Hid (∀ X, Below w.heap.size w X → (convert 22 9 (.slice a len cap)).run Try.prog X = .ok (.string (strOfNums (bl f len))) X) := hid_of fun X hX => conv_rd cap (h.below hX).rd
  obtain ⟨L, hL⟩ : ∃ L, L = bl f len := ⟨_, rfl⟩
  have hll : L.length = len := by rw [hL, bl_len]
  rw [← hL] at hall hsF hrd MK
  have hoct : Oct (fun i => L.getD i 0) L.length := fun i _ => getd_by hall i
  have FEW : Hid ((decR (fun i => L.getD i 0) L.length).2 = 0 → Few (objS (fun i => L.getD i 0) (L.length - 4) ⟨4, false⟩).1) := hid_of fun e => (dec_form hoct e).2.1.few
  have DA : ∀ X B ga gn gc, Ow X B (.slice ga gn gc) L → Calls Try.prog 5 #[.slice ga gn gc] X (PostC X (fun i => L.getD i 0) L.length) := fun X B ga gn gc hX => decode_own hX hall (by omega)
  have DB : ∀ X, Below w.heap.size w X → Calls Try.prog 6 #[.slice a len cap] X (PostC X (fun i => L.getD i 0) L.length) := fun X hX => by rw [hll]; exact rdecode_any X a len cap _ (hsF.below hX) hcap
  unfold PostC at DA DB
  generalize (decR (fun i => L.getD i 0) L.length).1 = pl at *
  generalize (decR (fun i => L.getD i 0) L.length).2 = er at *
  generalize (objS (fun i => L.getD i 0) (L.length - 4) ⟨4, false⟩).1 = oo at *
  have D1 : Hid (∀ X ga gn gc, Ow X w.heap.size (.slice ga gn gc) L ∧ Below w.heap.size w X → Calls Try.prog 5 #[.slice ga gn gc] X fun e Y => ∃ (c : Oc) (Z : World), e = .returned (.tuple #[.agg c.cells, .int .i64 pl, .int .i64 er]) ∧ (storeO ⟨Y.heap.size, 0, none⟩ (.agg c.cells)).run Try.prog (Y.alloc zeroO) = .ok () Z ∧ Hid (F1 w Z Y.heap.size c er oo (.slice ga gn gc) L X.heap.size Y.heap.size)) := hid_of fun X ga gn gc hX => (DA X _ ga gn gc hX.1).mono fun e Y hh => by
    obtain ⟨c, h1, h2, h3, h4⟩ := hh
    obtain ⟨Z, z1, z2, z3⟩ := storeO_run (zero_at Y) c
    have hwY : Below w.heap.size w Y := hX.2.trans (h2.mono hX.2.size)
    have bZ := bel_put rfl z3
    exact ⟨c, Z, h1, z1, z2, ⟨h3, fun e => by obtain ⟨B, hB, hO⟩ := h4 e; exact ⟨Y, B, rfl, Nat.le_of_lt hB, hO, bZ⟩⟩, hwY.trans (bZ.mono hwY.size), ow_below (ow_below hX.1 h2) bZ, fun g hg => own_wlt hX.1 g hg, hX.2.size, h2.size, Nat.le_refl _⟩
  have D2 : Hid (∀ X k1 c1 v V U, F1 w X k1 c1 er oo v L V U → Calls Try.prog 6 #[.slice a len cap] X fun e Y => ∃ (c : Oc) (Z : World), e = .returned (.tuple #[.agg c.cells, .int .i64 pl, .int .i64 er]) ∧ (storeO ⟨Y.heap.size, 0, none⟩ (.agg c.cells)).run Try.prog (Y.alloc zeroO) = .ok () Z ∧ Hid (F1 w Z k1 c1 er oo v L V U ∧ F2 w Z Y.heap.size c er oo U)) := hid_of fun X k1 c1 v V U hX => (DB X hX.be).mono fun e Y hh => by
    obtain ⟨c, h1, h2, h3, h4⟩ := hh
    obtain ⟨Z, z1, z2, z3⟩ := storeO_run (zero_at Y) c
    have bZ := bel_put rfl z3
    have hY := hX.below h2
    have hlt := hX.ob.lt
    have hs := h2.size
    have ho := hX.ord
    exact ⟨c, Z, h1, z1, hY.below bZ, z2, h3, fun e => by obtain ⟨B, hB, hO⟩ := h4 e; exact ⟨B, by omega, hO.below bZ⟩, (hY.below bZ).be, by omega⟩
  have S1 : Hid (∀ X k1 c1 v V U k2 c2, F1 w X k1 c1 er oo v L V U ∧ F2 w X k2 c2 er oo U → Calls Try.prog 7 #[.agg c1.cells, .agg c2.cells] X fun e Y => e = .returned (.bool true) ∧ Hid (F1 w Y k1 c1 er oo v L V U ∧ F2 w Y k2 c2 er oo U)) := hid_of fun X k1 c1 v V U k2 c2 hX => (same_qc hX.1.nc.qc hX.2.qc FEW.out).mono fun e Y hh => ⟨hh.1, hX.1.below hh.2, hX.2.below hh.2⟩
  have SP : Hid (∀ X k1 c1 v V U k2 c2, F1 w X k1 c1 er oo v L V U ∧ F2 w X k2 c2 er oo U → Calls Try.prog 8 #[.agg c1.cells] X fun e Y => e = .returned (.tuple #[]) ∧ Hid (Ow Y w.heap.size v L ∧ F2 w Y k2 c2 er oo U)) := hid_of fun X k1 c1 v V U k2 c2 hX => (nc_spoil hX.1.nc).mono fun e Y hh => ⟨hh.1, hh.2.own hX.1.mi fun g hg => by have := hX.1.lo g hg; omega, hX.2.tq hX.1.ord.1 hh.2⟩
  have D3 : Hid (∀ X ga gn gc k2 c2 U, Ow X w.heap.size (.slice ga gn gc) L ∧ F2 w X k2 c2 er oo U → Calls Try.prog 5 #[.slice ga gn gc] X fun e Y => ∃ (c : Oc) (Z : World), e = .returned (.tuple #[.agg c.cells, .int .i64 pl, .int .i64 er]) ∧ (storeO ⟨Y.heap.size, 0, none⟩ (.agg c.cells)).run Try.prog (Y.alloc zeroO) = .ok () Z ∧ (convert 22 9 (.slice ga gn gc)).run Try.prog Z = .ok (.string (strOfNums L)) Z ∧ Hid (OAt Z Y.heap.size c ∧ QC Z c er oo ∧ F2 w Z k2 c2 er oo U)) := hid_of fun X ga gn gc k2 c2 U hX => (DA X _ ga gn gc hX.1).mono fun e Y hh => by
    obtain ⟨c, h1, h2, h3, h4⟩ := hh
    obtain ⟨Z, z1, z2, z3⟩ := storeO_run (zero_at Y) c
    have bZ := bel_put rfl z3
    exact ⟨c, Z, h1, z1, conv_ow (ow_below (ow_below hX.1 h2) bZ) Z (fun _ _ _ => rfl), z2, QC.below ⟨h3, fun e => by obtain ⟨B, hB, hO⟩ := h4 e; exact ⟨B, hO⟩⟩ bZ, (hX.2.below h2).below bZ⟩
  have S2 : Hid (∀ X c k2 c2 U, QC X c er oo ∧ F2 w X k2 c2 er oo U → Calls Try.prog 7 #[.agg c.cells, .agg c2.cells] X fun e Y => e = .returned (.bool true) ∧ Below w.heap.size w Y) := hid_of fun X c k2 c2 U hX => (same_qc hX.1 hX.2.qc FEW.out).mono fun e Y hh => ⟨hh.1, hX.2.be.trans (hh.2.mono hX.2.be.size)⟩
  clear FEW hoct DA DB hsF hL hall hll h
  generalize strOfNums L = SS at D3 hrd
  unfold zeroO at D1 D2 D3
  have b1 : (pl == pl) = true := by simp
  have b2 : (er == er) = true := by simp
  have e1 : IntKind.i64.wrap ((len : Int) + 8) = (len : Int) + 8 := by rw [IntWalk.i64_left, IntWalk.wrap64_in] <;> omega
  go_enter Try.func3, Try.ntmps3
  go_wp2_with (first
    | (go_at_call 4; refine SH.out.mono ?_; rintro e w1 ⟨rfl, hb1⟩; obtain ⟨Y3, Y4, ga, gn, gc, r3, r4, HM⟩ := MK.out w1 hb1; clear hb1)
    | (have hx := HP; clear hx; go_at_call 5; refine (D3.out _ _ _ _ _ _ _ HP.out).mono ?_; rintro e w7 ⟨c3, Z3, rfl, z3, cv1, HQ⟩; have lo5 := loadO_run HQ.out.1; have lo6 := loadO_run HQ.out.2.2.ob; have cv2 := hrd.out _ HQ.out.2.2.be)
    | (go_at_call 5; refine (D1.out _ _ _ _ HM.out).mono ?_; rintro e w3 ⟨c1, Z1, rfl, z1, HD⟩; have lo1 := loadO_run HD.out.ob)
    | (go_at_call 6; refine (D2.out _ _ _ _ _ _ HD.out).mono ?_; rintro e w4 ⟨c2, Z2, rfl, z2, HE⟩; have lo2 := loadO_run HE.out.1.ob; have lo3 := loadO_run HE.out.2.ob)
    | (have hx := HQ; clear hx; go_at_call 7; refine (S2.out _ _ _ _ _ ⟨HQ.out.2.1, HQ.out.2.2⟩).mono ?_; rintro e w8 ⟨rfl, hb8⟩)
    | (go_at_call 7; refine (S1.out _ _ _ _ _ _ _ _ HE.out).mono ?_; rintro e w5 ⟨rfl, HG⟩; have lo4 := loadO_run HG.out.1.ob)
    | (go_at_call 8; refine (SP.out _ _ _ _ _ _ _ _ HG.out).mono ?_; rintro e w6 ⟨rfl, HP⟩))
  go_ret
  exact ⟨rfl, hb8⟩
end Go.Proofs.Ytepgifapepaheaa

namespace Go.Proofs.Ytepgifapepaheaa.objReads
open Go.ChangeShapes Go.WideShapes Go.ChangeAt Go.RowKit
open Go.ChangeMaps (open_string shut_string)
set_option linter.unusedVariables false

theorem own : ownKnob Try.prog.godebug = none := by kernel_rfl
theorem laidOut : laidOutB Try.prog = true := by kernel_rfl
theorem bytes5 : Try.prog.bytesOf 5 = 1 := by kernel_rfl

def IsRow (k : IntKind) (w : World) (a : Option Addr) (len cap : Nat) (zs : List Int) : Prop :=
  (a = none ∧ len = 0 ∧ cap = 0 ∧ zs = []) ∨
  ∃ x, a = some x ∧ len ≤ cap ∧ cap ≤ maxLen ∧ zs.length = cap ∧ (∀ i, i < zs.length → w.cell? (x.add i) = some (.int k (zs.getD i 0))) ∧ ∀ n ∈ zs, (Lit.int k n).wf = true
theorem src_of {w : World} {a : Option Addr} {len cap : Nat} {zs : List Int} (h : IsRow .u8 w a len cap zs) (hl : len ≤ 140737488351232) : Src w a len cap (fun i => zs.getD i 0) ∧ len ≤ cap := by
  refine ⟨⟨rdb_of_row h, ?_, hl⟩, ?_⟩
  · rcases h with ⟨_, h1, h2, _⟩ | ⟨x, rfl, _⟩
    · exact fun _ => ⟨h1, h2⟩
    · exact fun h => by cases h
  · rcases h with ⟨_, h1, h2, _⟩ | ⟨x, _, h1, _⟩
    · omega
    · exact h1

set_option maxRecDepth 100000 in
theorem lifted (os : Go.Os) (started : os.Started) (H : Type) (enc : TypeId × Value → H) :
    ReturnsInHanded {} Try.checked os 3 .any (Rows.objReadsSpec.pre6 enc Try.prog Try.f3 Rows.objReadsRow.domain false) (Rows.objReadsSpec.post enc Try.prog Try.f3 false true false false) := by
  refine returnsInHanded_of_change_sized (C := Try.checked) own started (by kernel_rfl) Try.func3
    (ChangeSpec.witness6 (enc := enc) (C := Try.checked) false ⟨#[], #[.slice none 0 0], []⟩ 8 (by kernel_rfl) (by kernel_rfl) (by kernel_rfl) (by kernel_rfl)) ?_
  intro W base args ds gs before hval0 hW hcnd hsz0 _
  have hsz : (DataW.weightsEach Try.prog (Try.f3.params.toList ++ Rows.objReadsSpec.plain.varTypes Try.prog) (ds ++ gs)).all (· ≤ reachBytes) = true := hsz0
  have hval : ∀ (j : Nat) t v, Try.f3.params[j]? = some t → args[j]? = some v → Value.okWide Try.prog W .any base t v := hval0
  have hW' := hW
  obtain ⟨p, q, hA0, hV, rfl, hfz, hnd⟩ := hW
  have hA : DataW.TrodAll enc Try.prog W 0 (fun _ => true) true Try.f3.params.toList args.toList ds p := hA0
  rw [Try.params3] at hA hval hsz
  obtain ⟨v0, vs0, d0, ds0, p0, q0, hargs, rfl, rfl, h0, r0⟩ := trodAll_cons hA
  obtain ⟨rfl, rfl, rfl⟩ := trodAll_nil r0
  obtain rfl : args = #[v0] := by cases args; simp_all
  obtain ⟨rfl, rfl⟩ := trodVars_none hV
  obtain ⟨a0, len0, cap0, rfl⟩ := okWide_slice Try.underlying22 (hval 0 22 v0 rfl rfl)
  have k0 := h0
  have lt0 : ∀ x ∈ p0, x.block < W.heap.size := by obtain ⟨m, hm⟩ := k0; exact DataW.trod_lt m _ _ _ hm
  obtain ⟨z0, w0, hreach⟩ : ∃ zs, IsRow .u8 W a0 len0 cap0 zs ∧ len0 ≤ 140737488351232 := by
    obtain ⟨fuel, hf⟩ := h0
    rcases open_ints Try.underlying22 Try.underlying5 (by kernel_rfl) hf with ⟨hcs, _⟩ | ⟨x, l, c, zs, hcs, _, hl, hm, hz, hx, hcell, hwz⟩
    · simp [Value.cells] at hcs
      obtain ⟨rfl, rfl, rfl⟩ := hcs
      exact ⟨[], .inl ⟨rfl, rfl, rfl, rfl⟩, by omega⟩
    · simp [Value.cells] at hcs
      obtain ⟨rfl, rfl, rfl⟩ := hcs
      have hz' : zs.length = cap0 := by simpa using hz
      refine ⟨zs, .inr ⟨_, rfl, hl, hm, hz', hcell, hwz⟩, ?_⟩
      simp only [Prod.mk.injEq] at hx
      obtain ⟨rfl, rfl⟩ := hx
      have hw := sized_slice hsz (j := 0) (t := 22) (e := 5) rfl rfl Try.underlying22
      rw [bytes5] at hw
      simp only [lits, List.length_map, List.length_take, List.length_drop, reachBytes] at hw
      omega
  clear hA0 hval0
  obtain ⟨hsrc, hcap⟩ := src_of w0 hreach
  refine (reads_any W a0 len0 cap0 _ hsrc hcap).mono fun e W' ⟨he, bel⟩ => ?_
  subst he
  exact ⟨_, rfl, _, _, _, [], _, [], hW', trodAll_mk1 (shut_bool Try.underlying4 _), (trodAll_cons_mk (Below.trod laidOut (by kernel_rfl) (of_decide_eq_true (by kernel_rfl)) k0 bel lt0) trodAll_mk0), rfl, bel.frame _, fun h => by cases h⟩

theorem over : Rows.objReadsRow.holds Try.pinned (OpenSpec.ofChange Rows.objReadsSpec) :=
  OpenClaim.holds_of_wide 3 Try.f3 rfl rfl rfl rfl rfl rfl rfl ⟨rfl, rfl, rfl, rfl, rfl⟩ rfl rfl rfl rfl rfl (by kernel_rfl) Try.func3 (by kernel_rfl)
    (of_decide_eq_true (by kernel_rfl)) (by unfold Func.isWrapper; first | (rw [if_pos (by decide +kernel)]; kernel_rfl) | (rw [if_neg (by decide +kernel)]; exact ⟨rfl, rfl⟩))
    (fun os started H enc _ => lifted os started H enc)
end Go.Proofs.Ytepgifapepaheaa.objReads

namespace Go.Proofs.Ytepgifapepaheaa
/-- The given statement. -/
theorem objReads_holds : Rows.ObjReadsSaid := objReads.over
#print axioms objReads_holds
end Go.Proofs.Ytepgifapepaheaa
