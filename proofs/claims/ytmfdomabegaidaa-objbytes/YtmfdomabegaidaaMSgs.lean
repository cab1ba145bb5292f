/-
  Layer 7: the law's Same, at two objects that hold the same.
  Layer 7: the law's Same, at two objects that hold the same: procedures, then all.
  Layer 7: the law's Same, at two objects that hold the same.
-/
import Derived.Test.YtmfdomabegaidaaRtr
namespace Go.Proofs.Ytmfdomabegaidaa
set_option linter.unusedVariables false
set_option linter.unusedSimpArgs false
open Go.ChangeShapes Go.WideShapes Go.ChangeAt Go.RowKit

/-- Two rows that hold the same, at a place. -/
theorem two_at {X : World} {α : Type} {val : α → Value} {s t : Sl} {l : List α} (h : RdV X 1 s l.length (l.map val)) (g : RdV X 1 t l.length (l.map val)) (i : Nat) (hi : i < l.length) : ∃ b off b2 off2, s.a = some ⟨b, off, none⟩ ∧ t.a = some ⟨b2, off2, none⟩ ∧ ∀ Y, Below X.heap.size X Y → Y.cell? ⟨b, off + i, none⟩ = some (val l[i]) ∧ Y.cell? ⟨b2, off2 + i, none⟩ = some (val l[i]) := by
  rcases h.at_ with h0 | ⟨b, off, h1, _, _⟩
  · omega
  rcases g.at_ with h0 | ⟨b2, off2, g1, _, _⟩
  · omega
  have hu : (l.map val)[i]? = some (val l[i]) := by rw [List.getElem?_map, List.getElem?_eq_getElem hi]; rfl
  exact ⟨b, off, b2, off2, h1, g1, fun Y hY => ⟨(h.below hY).cell h1 (by omega) hu, (g.below hY).cell g1 (by omega) hu⟩⟩
set_option maxHeartbeats 4000000 in
set_option maxRecDepth 20000 in
theorem ints_eq (w : World) (s t : Sl) (l : List Int) (h : RdV w 1 s l.length (l.map (Value.int .i64))) (g : RdV w 1 t l.length (l.map (Value.int .i64))) : Calls Try.prog 25 #[.slice s.a s.n s.c, .slice t.a t.n t.c] w fun e w' => e = .returned (.bool true) ∧ Below w.heap.size w w' := by
  have hm := h.most
  have hs := h.len
  have ht := g.len
  have TW : Hid (∀ i (hi : i < l.length), ∃ b off b2 off2, s.a = some ⟨b, off, none⟩ ∧ t.a = some ⟨b2, off2, none⟩ ∧ ∀ Y, Below w.heap.size w Y → Y.cell? ⟨b, off + i, none⟩ = some (.int .i64 l[i]) ∧ Y.cell? ⟨b2, off2 + i, none⟩ = some (.int .i64 l[i])) := fun i hi => two_at h g i hi
  obtain ⟨sa, sn, sc⟩ := s
  obtain ⟨ta, tn, tc⟩ := t
  simp only at *
  obtain ⟨n, hn⟩ : ∃ n, n = l.length := ⟨_, rfl⟩
  have HN : Hid (n = l.length) := hn
  rw [← hn] at hm hs ht
  subst hs ht
  clear h g hn
  have e0 : ((tn : Int) != (tn : Int)) = false := by simp
  go_enter Try.func25, Try.ntmps25
  go_wp2
  go_loopg [5] tn (fun gf s5 wx => ∃ i : Nat, s5 = .int .i64 (i : Int) ∧ i + gf = tn ∧ Hid (Below w.heap.size w wx))
  case atStart => exact ⟨0, rfl, by omega, Below.refl _ _⟩
  case round =>
    obtain ⟨i, rfl, hi, HB⟩ := hrel
    by_cases hlt : i < tn
    · obtain ⟨g', rfl⟩ : ∃ g', gk = g' + 1 := ⟨gk - 1, by omega⟩
      have d1 : decide ((i : Int) < (tn : Int)) = true := decide_eq_true (by omega)
      have j0 : (0 : Int) ≤ (i : Int) := by omega
      have j1 : (i : Int) < (tn : Int) := by omega
      have hil : i < l.length := by rw [← HN.out]; exact hlt
      obtain ⟨b, off, b2, off2, rfl, rfl, hc⟩ := TW.out i hil
      obtain ⟨k0, k1⟩ := hc wr HB.out
      generalize l[i] = y at k0 k1
      clear hc TW
      have e1 : (y != y) = false := by simp
      go_wp2
      go_region
      all_goals
        go_wp2
        go_roundg g'
        case measure => omega
        case rel => exact ⟨i + 1, by simp, by omega, HB.out.drew⟩
    · have d1 : decide ((i : Int) < (tn : Int)) = false := decide_eq_false (by omega)
      go_wp2
      go_ret
      exact ⟨rfl, HB.out⟩
end Go.Proofs.Ytmfdomabegaidaa

namespace Go.Proofs.Ytmfdomabegaidaa
set_option linter.unusedVariables false
set_option linter.unusedSimpArgs false
open Go.ChangeShapes Go.WideShapes Go.ChangeAt Go.RowKit
attribute [local go_sem ↓] loadO_seal

/-- Two rows of things of several cells that hold the same, at a place. -/
theorem two_many {X : World} {α : Type} {enc enc2 : α → Array Value} {k : Nat} {s t : Sl} {l l2 : List α} (he : ∀ x, (enc x).size = k) (h : RdV X k s l.length (flat enc l)) (g : RdV X k t l2.length (flat enc l2)) (i : Nat) (hi : i < l.length) (hi2 : i < l2.length) : ∃ b off b2 off2, s.a = some ⟨b, off, none⟩ ∧ t.a = some ⟨b2, off2, none⟩ ∧ ∀ Y, Below X.heap.size X Y → ∀ m (hm : m < k), Y.cell? ⟨b, off + (i * k + m), none⟩ = (enc l[i])[m]? ∧ Y.cell? ⟨b2, off2 + (i * k + m), none⟩ = (enc l2[i])[m]? := by
  rcases h.at_ with h0 | ⟨b, off, h1, _, _⟩
  · omega
  rcases g.at_ with h0 | ⟨b2, off2, g1, _, _⟩
  · omega
  refine ⟨b, off, b2, off2, h1, g1, fun Y hY m hm => ?_⟩
  have e1 := flat_at enc k he l i hi m hm
  have e2 := flat_at enc k he l2 i hi2 m hm
  have q1 : (enc l[i])[m]? = some ((enc l[i])[m]'(by rw [he]; exact hm)) := Array.getElem?_eq_getElem _
  have q2 : (enc l2[i])[m]? = some ((enc l2[i])[m]'(by rw [he]; exact hm)) := Array.getElem?_eq_getElem _
  rw [q1] at e1 ⊢
  rw [q2] at e2 ⊢
  exact ⟨(h.below hY).cell h1 (by omega) e1, (g.below hY).cell g1 (by omega) e2⟩
/-- Both objects, each in a box. -/
structure SI (w X : World) (c d : Oc) : Prop where
  b1 : OAt X w.heap.size c
  b2 : OAt X (w.heap.size + 1) d
  be : Below w.heap.size w X
theorem SI.below {w X Y : World} {c d : Oc} (h : SI w X c d) (hb : Below X.heap.size X Y) : SI w Y c d := ⟨(hb.block _ h.b1.lt).trans h.b1, (hb.block _ h.b2.lt).trans h.b2, h.be.trans (hb.mono (Nat.le_of_lt h.b1.lt))⟩
theorem SI.drew {w X : World} {c d : Oc} (h : SI w X c d) : SI w X.drew c d := h.below (Below.refl _ _).drew
theorem SI.start (w : World) (c d : Oc) : SI w ((w.alloc (.cells c.cells 31)).alloc (.cells d.cells 31)) c d := by
  refine ⟨?_, ?_, by go_grown⟩
  · exact (Below.heap_alloc _ _ _ (by simp)).trans (blk_new _ _)
  · have := blk_new (w.alloc (.cells c.cells 31)) (.cells d.cells 31)
    rw [show (w.alloc (.cells c.cells 31)).heap.size = w.heap.size + 1 by simp] at this
    exact this
set_option maxHeartbeats 16000000 in
set_option maxRecDepth 20000 in
theorem procs_eq (w : World) (c d : Oc) (o : Ob) (h : ObR w c o) (g : ObR w d o) : Calls Try.prog 26 #[.agg c.cells, .agg d.cells] w fun e w' => e = .returned (.bool true) ∧ Below w.heap.size w w' := by
  have I4 : Hid (∀ X, SI w X c d → Calls Try.prog 25 #[.slice c.pr.a c.pr.n c.pr.c, .slice d.pr.a d.pr.n d.pr.c] X fun e Y => e = .returned (.bool true) ∧ SI w Y c d) := fun X hX => (ints_eq X c.pr d.pr o.procs (h.pr.below hX.be) (g.pr.below hX.be)).mono fun e Y hh => ⟨hh.1, hX.below hh.2⟩
  have I8 : Hid (∀ X, SI w X c d → Calls Try.prog 25 #[.slice c.va.a c.va.n c.va.c, .slice d.va.a d.va.n d.va.c] X fun e Y => e = .returned (.bool true) ∧ SI w Y c d) := fun X hX => (ints_eq X c.va d.va o.vars (h.va.below hX.be) (g.va.below hX.be)).mono fun e Y hh => ⟨hh.1, hX.below hh.2⟩
  have I9 : Hid (∀ X, SI w X c d → Calls Try.prog 25 #[.slice c.sh.a c.sh.n c.sh.c, .slice d.sh.a d.sh.n d.sh.c] X fun e Y => e = .returned (.bool true) ∧ SI w Y c d) := fun X hX => (ints_eq X c.sh d.sh o.shown (h.sh.below hX.be) (g.sh.below hX.be)).mono fun e Y hh => ⟨hh.1, hX.below hh.2⟩
  have Tna : Hid (∀ i (hi : i < o.names.length), ∃ b off b2 off2, c.na.a = some ⟨b, off, none⟩ ∧ d.na.a = some ⟨b2, off2, none⟩ ∧ ∀ Y, Below w.heap.size w Y → Y.cell? ⟨b, off + i, none⟩ = some (.string o.names[i]) ∧ Y.cell? ⟨b2, off2 + i, none⟩ = some (.string o.names[i])) := fun i hi => two_at h.na g.na i hi
  have Tex : Hid (∀ i (hi : i < o.exps.length), ∃ b off b2 off2, c.ex.a = some ⟨b, off, none⟩ ∧ d.ex.a = some ⟨b2, off2, none⟩ ∧ ∀ Y, Below w.heap.size w Y → Y.cell? ⟨b, off + i, none⟩ = some (.bool o.exps[i]) ∧ Y.cell? ⟨b2, off2 + i, none⟩ = some (.bool o.exps[i])) := fun i hi => two_at h.ex g.ex i hi
  have Lna : Hid (c.na.n = o.names.length ∧ d.na.n = o.names.length ∧ c.na.n ≤ 140737488355328) := ⟨h.na.len, g.na.len, by rw [h.na.len]; exact h.na.most⟩
  have Lex : Hid (c.ex.n = o.exps.length ∧ d.ex.n = o.exps.length ∧ c.ex.n ≤ 140737488355328) := ⟨h.ex.len, g.ex.len, by rw [h.ex.len]; exact h.ex.most⟩
  have m5 : c.na.n ≤ 140737488355328 := Lna.out.2.2
  have m6 : c.ex.n ≤ 140737488355328 := Lex.out.2.2
  have n5 : ((c.na.n : Int) != (d.na.n : Int)) = false := by have := Lna.out; simp; omega
  have n6 : ((c.ex.n : Int) != (d.ex.n : Int)) = false := by have := Lex.out; simp; omega
  have CL : Hid (∀ X, SI w X c d → X.cell? ⟨w.heap.size, 4, none⟩ = some (.slice c.pr.a c.pr.n c.pr.c) ∧ X.cell? ⟨w.heap.size + 1, 4, none⟩ = some (.slice d.pr.a d.pr.n d.pr.c) ∧ X.cell? ⟨w.heap.size, 8, none⟩ = some (.slice c.va.a c.va.n c.va.c) ∧ X.cell? ⟨w.heap.size + 1, 8, none⟩ = some (.slice d.va.a d.va.n d.va.c) ∧ X.cell? ⟨w.heap.size, 9, none⟩ = some (.slice c.sh.a c.sh.n c.sh.c) ∧ X.cell? ⟨w.heap.size + 1, 9, none⟩ = some (.slice d.sh.a d.sh.n d.sh.c) ∧ X.cell? ⟨w.heap.size, 5, none⟩ = some (.slice c.na.a c.na.n c.na.c) ∧ X.cell? ⟨w.heap.size + 1, 5, none⟩ = some (.slice d.na.a d.na.n d.na.c) ∧ X.cell? ⟨w.heap.size, 6, none⟩ = some (.slice c.ex.a c.ex.n c.ex.c) ∧ X.cell? ⟨w.heap.size + 1, 6, none⟩ = some (.slice d.ex.a d.ex.n d.ex.c)) := fun X hX => ⟨blk_cell hX.b1 4, blk_cell hX.b2 4, blk_cell hX.b1 8, blk_cell hX.b2 8, blk_cell hX.b1 9, blk_cell hX.b2 9, blk_cell hX.b1 5, blk_cell hX.b2 5, blk_cell hX.b1 6, blk_cell hX.b2 6⟩
  obtain ⟨W, hW⟩ : ∃ W, W = (w.alloc (.cells c.cells 31)).alloc (.cells d.cells 31) := ⟨_, rfl⟩
  have S0 : Hid (SI w W c d) := by rw [hW]; exact SI.start w c d
  obtain ⟨u1, u2, _, _, _, _, _, _, _, _⟩ := CL.out _ S0.out
  clear h g
  go_enter Try.func26, Try.ntmps26
  go_wp2_with (first
    | (rw [← hW]; clear hW)
    | (go_at_call 25; have hx := D2; clear hx; refine (I9.out _ D2.out).mono ?_; rintro e w3 ⟨rfl, d3⟩; have D0 := hid_of d3; obtain ⟨_, _, _, _, _, _, v7, v8, v9, v10⟩ := CL.out _ d3; clear d3)
    | (go_at_call 25; have hx := D1; clear hx; refine (I8.out _ D1.out).mono ?_; rintro e w2 ⟨rfl, d2⟩; have D2 := hid_of d2; obtain ⟨_, _, _, _, v5, v6, _, _, _, _⟩ := CL.out _ d2; clear d2)
    | (go_at_call 25; refine (I4.out _ S0.out).mono ?_; rintro e w1 ⟨rfl, d1⟩; have D1 := hid_of d1; obtain ⟨_, _, v3, v4, _, _, _, _, _, _⟩ := CL.out _ d1; clear d1))
  go_loopg [8] c.na.n (fun gf t8 wx => ∃ i : Nat, t8 = .int .i64 (i : Int) ∧ i + gf = c.na.n ∧ Hid (SI w wx c d))
  case atStart => exact ⟨0, rfl, by omega, D0.out⟩
  case round =>
    obtain ⟨i, rfl, hi, HS⟩ := hrel
    have q1 : wr.cell? ⟨w.heap.size, 5, none⟩ = some (.slice c.na.a c.na.n c.na.c) := blk_cell HS.out.b1 5
    have q2 : wr.cell? ⟨w.heap.size + 1, 5, none⟩ = some (.slice d.na.a d.na.n d.na.c) := blk_cell HS.out.b2 5
    by_cases hlt : i < c.na.n
    · obtain ⟨g', rfl⟩ : ∃ g', gk = g' + 1 := ⟨gk - 1, by omega⟩
      have d1 : decide ((i : Int) < (c.na.n : Int)) = true := decide_eq_true (by omega)
      have j0 : (0 : Int) ≤ (i : Int) := by omega
      have j1 : (i : Int) < (c.na.n : Int) := by omega
      have j2 : (i : Int) < (d.na.n : Int) := by have := Lna.out; omega
      have j3 : i < d.na.n := by have := Lna.out; omega
      have hil : i < o.names.length := by have := Lna.out; omega
      obtain ⟨b, off, b2, off2, ha, ha2, hc⟩ := Tna.out i hil
      obtain ⟨k0, k1⟩ := hc wr HS.out.be
      rw [ha] at q1
      rw [ha2] at q2
      generalize o.names[i] = y at k0 k1
      clear hc
      have e1 : (y.toList == y.toList) = true := by simp
      go_wp2
      go_region
      all_goals
        go_wp2
        go_roundg g'
        case measure => omega
        case rel => exact ⟨i + 1, by simp, by omega, HS.out.drew⟩
    · have d1 : decide ((i : Int) < (c.na.n : Int)) = false := decide_eq_false (by omega)
      obtain ⟨wo, rfl⟩ : ∃ wo, wo = wr := ⟨_, rfl⟩
      have d5 := HS
      go_wp2
      go_loopg [9] c.ex.n (fun gf t9 wx => ∃ i : Nat, t9 = .int .i64 (i : Int) ∧ i + gf = c.ex.n ∧ Hid (SI w wx c d))
      case atStart => exact ⟨0, rfl, by omega, d5.out⟩
      case round =>
        obtain ⟨i, rfl, hi, HS⟩ := hrel
        have q1 : wr.cell? ⟨w.heap.size, 6, none⟩ = some (.slice c.ex.a c.ex.n c.ex.c) := blk_cell HS.out.b1 6
        have q2 : wr.cell? ⟨w.heap.size + 1, 6, none⟩ = some (.slice d.ex.a d.ex.n d.ex.c) := blk_cell HS.out.b2 6
        by_cases hlt : i < c.ex.n
        · obtain ⟨g', rfl⟩ : ∃ g', gk = g' + 1 := ⟨gk - 1, by omega⟩
          have d1 : decide ((i : Int) < (c.ex.n : Int)) = true := decide_eq_true (by omega)
          have j0 : (0 : Int) ≤ (i : Int) := by omega
          have j1 : (i : Int) < (c.ex.n : Int) := by omega
          have j2 : (i : Int) < (d.ex.n : Int) := by have := Lex.out; omega
          have j3 : i < d.ex.n := by have := Lex.out; omega
          have hil : i < o.exps.length := by have := Lex.out; omega
          obtain ⟨b, off, b2, off2, ha, ha2, hc⟩ := Tex.out i hil
          obtain ⟨k0, k1⟩ := hc wr HS.out.be
          rw [ha] at q1
          rw [ha2] at q2
          generalize o.exps[i] = y at k0 k1
          clear hc
          have e1 : (y != y) = false := by simp
          go_wp2
          go_region
          all_goals
            go_wp2
            go_roundg g'
            case measure => omega
            case rel => exact ⟨i + 1, by simp, by omega, HS.out.drew⟩
        · have d1 : decide ((i : Int) < (c.ex.n : Int)) = false := decide_eq_false (by omega)
          go_wp2
          go_ret
          exact ⟨rfl, HS.out.be⟩
end Go.Proofs.Ytmfdomabegaidaa

namespace Go.Proofs.Ytmfdomabegaidaa
set_option linter.unusedVariables false
set_option linter.unusedSimpArgs false
open Go.ChangeShapes Go.WideShapes Go.ChangeAt Go.RowKit
attribute [local go_sem ↓] loadO_seal

set_option maxHeartbeats 32000000 in
set_option maxRecDepth 20000 in
theorem same_eq (w : World) (c d : Oc) (o : Ob) (h : ObR w c o) (g : ObR w d o) : Calls Try.prog 11 #[.agg c.cells, .agg d.cells] w fun e w' => e = .returned (.bool true) ∧ Below w.heap.size w w' := by
  have PE : Hid (∀ X, SI w X c d → Calls Try.prog 26 #[.agg c.cells, .agg d.cells] X fun e Y => e = .returned (.bool true) ∧ Below w.heap.size w Y) := fun X hX => (procs_eq X c d o (h.below hX.be) (g.below hX.be)).mono fun e Y hh => ⟨hh.1, hX.be.trans (hh.2.mono hX.be.size)⟩
  obtain ⟨l1, a1, a2, a3⟩ := h.ds
  obtain ⟨l2, b1, b2, b3⟩ := g.ds
  have n12 : l1.length = l2.length := by have := congrArg List.length (a1.trans b1.symm); simpa using this
  have h12 : ∀ i, i < l1.length → (l1.getD i d0).1 = (l2.getD i d0).1 := fun i hi => by
    have e1 : (l1.map (·.1))[i]? = (l2.map (·.1))[i]? := by rw [a1, b1]
    rw [List.getElem?_map, List.getElem?_map, List.getElem?_eq_getElem hi, List.getElem?_eq_getElem (by omega)] at e1
    rw [getD_at _ _ i hi, getD_at _ _ i (by omega)]
    simpa using e1
  have Tds : Hid (∀ i, i < c.ds.n → i < d.ds.n → ∃ b off b2 off2, c.ds.a = some ⟨b, off, none⟩ ∧ d.ds.a = some ⟨b2, off2, none⟩ ∧ ∀ Y, Below w.heap.size w Y → ∀ m (hm : m < 3), Y.cell? ⟨b, off + (i * 3 + m), none⟩ = (dEnc (l1.getD i d0))[m]? ∧ Y.cell? ⟨b2, off2 + (i * 3 + m), none⟩ = (dEnc (l2.getD i d0))[m]?) := fun i hi hi2 => by
    rw [a2.len] at hi
    rw [b2.len] at hi2
    rw [getD_at _ _ i hi, getD_at _ _ i hi2]
    exact two_many (enc := dEnc) (enc2 := dEnc) (k := 3) (fun _ => rfl) a2 b2 i hi hi2
  have Hds : Hid (∀ i, i < c.ds.n → (l1.getD i d0).1 = (l2.getD i d0).1) := fun i hi => h12 i (by rw [← a2.len]; exact hi)
  have IDs : Hid (∀ X, SI w X c d → ∀ i, i < c.ds.n → Calls Try.prog 25 #[.slice (l1.getD i d0).2.a (l1.getD i d0).2.n (l1.getD i d0).2.c, .slice (l2.getD i d0).2.a (l2.getD i d0).2.n (l2.getD i d0).2.c] X fun e Y => e = .returned (.bool true) ∧ SI w Y c d) := fun X hX i hi => by
    rw [a2.len] at hi
    have e1 := (a3 (l1.getD i d0) (by rw [getD_at _ _ i hi]; exact List.getElem_mem hi)).below hX.be
    have e2 := (b3 (l2.getD i d0) (by rw [getD_at _ _ i (by omega)]; exact List.getElem_mem _)).below hX.be
    rw [← h12 i hi] at e2
    exact (ints_eq X _ _ _ e1 e2).mono fun e Y hh => ⟨hh.1, hX.below hh.2⟩
  have Tim : Hid (∀ i (hi : i < o.imps.length), ∃ b off b2 off2, c.im.a = some ⟨b, off, none⟩ ∧ d.im.a = some ⟨b2, off2, none⟩ ∧ ∀ Y, Below w.heap.size w Y → ∀ m (hm : m < 2), Y.cell? ⟨b, off + (i * 2 + m), none⟩ = (iEnc o.imps[i])[m]? ∧ Y.cell? ⟨b2, off2 + (i * 2 + m), none⟩ = (iEnc o.imps[i])[m]?) := fun i hi => two_many (enc := iEnc) (enc2 := iEnc) (k := 2) (fun _ => rfl) h.im g.im i hi hi
  have Tfx : Hid (∀ i (hi : i < o.fixes.length), ∃ b off b2 off2, c.fx.a = some ⟨b, off, none⟩ ∧ d.fx.a = some ⟨b2, off2, none⟩ ∧ ∀ Y, Below w.heap.size w Y → ∀ m (hm : m < 4), Y.cell? ⟨b, off + (i * 4 + m), none⟩ = (xEnc o.fixes[i])[m]? ∧ Y.cell? ⟨b2, off2 + (i * 4 + m), none⟩ = (xEnc o.fixes[i])[m]?) := fun i hi => two_many (enc := xEnc) (enc2 := xEnc) (k := 4) (fun _ => rfl) h.fx g.fx i hi hi
  have Tco : Hid (∀ i (hi : i < o.code.length), ∃ b off b2 off2, c.co.a = some ⟨b, off, none⟩ ∧ d.co.a = some ⟨b2, off2, none⟩ ∧ ∀ Y, Below w.heap.size w Y → Y.cell? ⟨b, off + i, none⟩ = some (.int .u32 o.code[i]) ∧ Y.cell? ⟨b2, off2 + i, none⟩ = some (.int .u32 o.code[i])) := fun i hi => two_at h.co g.co i hi
  have Tst : Hid (∀ i (hi : i < o.strs.length), ∃ b off b2 off2, c.st.a = some ⟨b, off, none⟩ ∧ d.st.a = some ⟨b2, off2, none⟩ ∧ ∀ Y, Below w.heap.size w Y → Y.cell? ⟨b, off + i, none⟩ = some (.string o.strs[i]) ∧ Y.cell? ⟨b2, off2 + i, none⟩ = some (.string o.strs[i])) := fun i hi => two_at h.st g.st i hi
  have Lim : Hid (c.im.n = o.imps.length ∧ d.im.n = o.imps.length ∧ c.im.n ≤ 140737488355328) := ⟨h.im.len, g.im.len, by rw [h.im.len]; exact h.im.most⟩
  have Lco : Hid (c.co.n = o.code.length ∧ d.co.n = o.code.length ∧ c.co.n ≤ 140737488355328) := ⟨h.co.len, g.co.len, by rw [h.co.len]; exact h.co.most⟩
  have Lst : Hid (c.st.n = o.strs.length ∧ d.st.n = o.strs.length ∧ c.st.n ≤ 140737488355328) := ⟨h.st.len, g.st.len, by rw [h.st.len]; exact h.st.most⟩
  have Lfx : Hid (c.fx.n = o.fixes.length ∧ d.fx.n = o.fixes.length ∧ c.fx.n ≤ 140737488355328) := ⟨h.fx.len, g.fx.len, by rw [h.fx.len]; exact h.fx.most⟩
  have Lds : Hid (c.ds.n = l1.length ∧ d.ds.n = l1.length ∧ c.ds.n ≤ 140737488355328) := ⟨a2.len, by rw [b2.len, n12], by rw [a2.len]; exact a2.most⟩
  have mim : c.im.n ≤ 140737488355328 := Lim.out.2.2
  have nim : ((c.im.n : Int) != (d.im.n : Int)) = false := by have := Lim.out; simp; omega
  have mco : c.co.n ≤ 140737488355328 := Lco.out.2.2
  have nco : ((c.co.n : Int) != (d.co.n : Int)) = false := by have := Lco.out; simp; omega
  have mst : c.st.n ≤ 140737488355328 := Lst.out.2.2
  have nst : ((c.st.n : Int) != (d.st.n : Int)) = false := by have := Lst.out; simp; omega
  have mfx : c.fx.n ≤ 140737488355328 := Lfx.out.2.2
  have nfx : ((c.fx.n : Int) != (d.fx.n : Int)) = false := by have := Lfx.out; simp; omega
  have mds : c.ds.n ≤ 140737488355328 := Lds.out.2.2
  have nds : ((c.ds.n : Int) != (d.ds.n : Int)) = false := by have := Lds.out; simp; omega
  have nnm : c.nm = d.nm := by rw [h.nm, g.nm]
  have nke : c.key = d.key := by rw [h.key, g.key]
  have nin : c.ini = d.ini := by rw [h.ini, g.ini]
  have y1 : (d.nm.toList == d.nm.toList) = true := by simp
  have y2 : (d.key != d.key) = false := by simp
  have y3 : (d.ini != d.ini) = false := by simp
  obtain ⟨W, hW⟩ : ∃ W, W = (w.alloc (.cells c.cells 31)).alloc (.cells d.cells 31) := ⟨_, rfl⟩
  have S0 : Hid (SI w W c d) := by rw [hW]; exact SI.start w c d
  have u0 : W.cell? ⟨w.heap.size, 0, none⟩ = some (.string d.nm) := by rw [← nnm]; exact blk_cell S0.out.b1 0
  have u1 : W.cell? ⟨w.heap.size, 1, none⟩ = some (.int .u32 d.key) := by rw [← nke]; exact blk_cell S0.out.b1 1
  have u7 : W.cell? ⟨w.heap.size, 7, none⟩ = some (.int .i64 d.ini) := by rw [← nin]; exact blk_cell S0.out.b1 7
  have v0 : W.cell? ⟨w.heap.size + 1, 0, none⟩ = some (.string d.nm) := blk_cell S0.out.b2 0
  have v1 : W.cell? ⟨w.heap.size + 1, 1, none⟩ = some (.int .u32 d.key) := blk_cell S0.out.b2 1
  have v7 : W.cell? ⟨w.heap.size + 1, 7, none⟩ = some (.int .i64 d.ini) := blk_cell S0.out.b2 7
  have u2 : W.cell? ⟨w.heap.size, 2, none⟩ = some (.slice c.im.a c.im.n c.im.c) := blk_cell S0.out.b1 2
  have v2 : W.cell? ⟨w.heap.size + 1, 2, none⟩ = some (.slice d.im.a d.im.n d.im.c) := blk_cell S0.out.b2 2
  have u3 : W.cell? ⟨w.heap.size, 3, none⟩ = some (.slice c.co.a c.co.n c.co.c) := blk_cell S0.out.b1 3
  have v3 : W.cell? ⟨w.heap.size + 1, 3, none⟩ = some (.slice d.co.a d.co.n d.co.c) := blk_cell S0.out.b2 3
  have u10 : W.cell? ⟨w.heap.size, 10, none⟩ = some (.slice c.st.a c.st.n c.st.c) := blk_cell S0.out.b1 10
  have v10 : W.cell? ⟨w.heap.size + 1, 10, none⟩ = some (.slice d.st.a d.st.n d.st.c) := blk_cell S0.out.b2 10
  have u12 : W.cell? ⟨w.heap.size, 12, none⟩ = some (.slice c.fx.a c.fx.n c.fx.c) := blk_cell S0.out.b1 12
  have v12 : W.cell? ⟨w.heap.size + 1, 12, none⟩ = some (.slice d.fx.a d.fx.n d.fx.c) := blk_cell S0.out.b2 12
  have u11 : W.cell? ⟨w.heap.size, 11, none⟩ = some (.slice c.ds.a c.ds.n c.ds.c) := blk_cell S0.out.b1 11
  have v11 : W.cell? ⟨w.heap.size + 1, 11, none⟩ = some (.slice d.ds.a d.ds.n d.ds.c) := blk_cell S0.out.b2 11
  clear h g a1 a2 a3 b1 b2 b3 n12 h12 nnm nke nin
  go_enter Try.func11, Try.ntmps11
  go_wp2_with (rw [← hW]; clear hW)
  go_loopg [5] c.im.n (fun gf t5 wx => ∃ i : Nat, t5 = .int .i64 (i : Int) ∧ i + gf = c.im.n ∧ Hid (SI w wx c d))
  case atStart => exact ⟨0, rfl, by omega, S0.out⟩
  case round =>
    obtain ⟨i, rfl, hi, HS⟩ := hrel
    have q1 : wr.cell? ⟨w.heap.size, 2, none⟩ = some (.slice c.im.a c.im.n c.im.c) := blk_cell HS.out.b1 2
    have q2 : wr.cell? ⟨w.heap.size + 1, 2, none⟩ = some (.slice d.im.a d.im.n d.im.c) := blk_cell HS.out.b2 2
    by_cases hlt : i < c.im.n
    · obtain ⟨g', rfl⟩ : ∃ g', gk = g' + 1 := ⟨gk - 1, by omega⟩
      have d1 : decide ((i : Int) < (c.im.n : Int)) = true := decide_eq_true (by omega)
      have j0 : (0 : Int) ≤ (i : Int) := by omega
      have j1 : (i : Int) < (c.im.n : Int) := by omega
      have j2 : (i : Int) < (d.im.n : Int) := by have := Lim.out; omega
      have j3 : i < d.im.n := by have := Lim.out; omega
      have hil : i < o.imps.length := by have := Lim.out; omega
      obtain ⟨b, off, b2, off2, ha, ha2, hc⟩ := Tim.out i hil
      have hcc := hc wr HS.out.be
      rw [ha] at q1
      rw [ha2] at q2
      generalize o.imps[i] = y at hcc
      have k0 : wr.cell? ⟨b, off + i * 2, none⟩ = some (.string y.1) := by have := (hcc 0 (by omega)).1; exact this
      have h0 : wr.cell? ⟨b2, off2 + i * 2, none⟩ = some (.string y.1) := by have := (hcc 0 (by omega)).2; exact this
      have k1 : wr.cell? ⟨b, off + i * 2 + 1, none⟩ = some (.int .u32 y.2) := by have := (hcc 1 (by omega)).1; rw [← Nat.add_assoc] at this; exact this
      have h1 : wr.cell? ⟨b2, off2 + i * 2 + 1, none⟩ = some (.int .u32 y.2) := by have := (hcc 1 (by omega)).2; rw [← Nat.add_assoc] at this; exact this
      have e1 : (y.1.toList == y.1.toList) = true := by simp
      clear hc hcc
      go_wp2
      go_region
      all_goals
        go_wp2
        go_roundg g'
        case measure => omega
        case rel => exact ⟨i + 1, by simp, by omega, HS.out.drew⟩
    · have d1 : decide ((i : Int) < (c.im.n : Int)) = false := decide_eq_false (by omega)
      have z1 := HS
      go_wp2
      go_loopg [6] c.co.n (fun gf t6 wx => ∃ i : Nat, t6 = .int .i64 (i : Int) ∧ i + gf = c.co.n ∧ Hid (SI w wx c d))
      case atStart => exact ⟨0, rfl, by omega, z1.out⟩
      case round =>
        obtain ⟨i, rfl, hi, HS⟩ := hrel
        have q1 : wr.cell? ⟨w.heap.size, 3, none⟩ = some (.slice c.co.a c.co.n c.co.c) := blk_cell HS.out.b1 3
        have q2 : wr.cell? ⟨w.heap.size + 1, 3, none⟩ = some (.slice d.co.a d.co.n d.co.c) := blk_cell HS.out.b2 3
        by_cases hlt : i < c.co.n
        · obtain ⟨g', rfl⟩ : ∃ g', gk = g' + 1 := ⟨gk - 1, by omega⟩
          have d1 : decide ((i : Int) < (c.co.n : Int)) = true := decide_eq_true (by omega)
          have j0 : (0 : Int) ≤ (i : Int) := by omega
          have j1 : (i : Int) < (c.co.n : Int) := by omega
          have j2 : (i : Int) < (d.co.n : Int) := by have := Lco.out; omega
          have j3 : i < d.co.n := by have := Lco.out; omega
          have hil : i < o.code.length := by have := Lco.out; omega
          obtain ⟨b, off, b2, off2, ha, ha2, hc⟩ := Tco.out i hil
          obtain ⟨k0, k1⟩ := hc wr HS.out.be
          rw [ha] at q1
          rw [ha2] at q2
          generalize o.code[i] = y at k0 k1
          clear hc
          have e1 : (y != y) = false := by simp
          go_wp2
          go_region
          all_goals
            go_wp2
            go_roundg g'
            case measure => omega
            case rel => exact ⟨i + 1, by simp, by omega, HS.out.drew⟩
        · have d1 : decide ((i : Int) < (c.co.n : Int)) = false := decide_eq_false (by omega)
          have z2 := HS
          go_wp2
          go_loopg [7] c.st.n (fun gf t7 wx => ∃ i : Nat, t7 = .int .i64 (i : Int) ∧ i + gf = c.st.n ∧ Hid (SI w wx c d))
          case atStart => exact ⟨0, rfl, by omega, z2.out⟩
          case round =>
            obtain ⟨i, rfl, hi, HS⟩ := hrel
            have q1 : wr.cell? ⟨w.heap.size, 10, none⟩ = some (.slice c.st.a c.st.n c.st.c) := blk_cell HS.out.b1 10
            have q2 : wr.cell? ⟨w.heap.size + 1, 10, none⟩ = some (.slice d.st.a d.st.n d.st.c) := blk_cell HS.out.b2 10
            by_cases hlt : i < c.st.n
            · obtain ⟨g', rfl⟩ : ∃ g', gk = g' + 1 := ⟨gk - 1, by omega⟩
              have d1 : decide ((i : Int) < (c.st.n : Int)) = true := decide_eq_true (by omega)
              have j0 : (0 : Int) ≤ (i : Int) := by omega
              have j1 : (i : Int) < (c.st.n : Int) := by omega
              have j2 : (i : Int) < (d.st.n : Int) := by have := Lst.out; omega
              have j3 : i < d.st.n := by have := Lst.out; omega
              have hil : i < o.strs.length := by have := Lst.out; omega
              obtain ⟨b, off, b2, off2, ha, ha2, hc⟩ := Tst.out i hil
              obtain ⟨k0, k1⟩ := hc wr HS.out.be
              rw [ha] at q1
              rw [ha2] at q2
              generalize o.strs[i] = y at k0 k1
              clear hc
              have e1 : (y.toList == y.toList) = true := by simp
              go_wp2
              go_region
              all_goals
                go_wp2
                go_roundg g'
                case measure => omega
                case rel => exact ⟨i + 1, by simp, by omega, HS.out.drew⟩
            · have d1 : decide ((i : Int) < (c.st.n : Int)) = false := decide_eq_false (by omega)
              have z3 := HS
              go_wp2
              go_loopg [8, 9] c.ds.n (fun gf t8 t9 wx => ∃ i : Nat, t8 = .int .i64 (i : Int) ∧ i + gf = c.ds.n ∧ Hid (SI w wx c d))
              case atStart => exact ⟨0, rfl, by omega, z3.out⟩
              case round =>
                obtain ⟨i, rfl, hi, HS⟩ := hrel
                have q1 : wr.cell? ⟨w.heap.size, 11, none⟩ = some (.slice c.ds.a c.ds.n c.ds.c) := blk_cell HS.out.b1 11
                have q2 : wr.cell? ⟨w.heap.size + 1, 11, none⟩ = some (.slice d.ds.a d.ds.n d.ds.c) := blk_cell HS.out.b2 11
                by_cases hlt : i < c.ds.n
                · obtain ⟨g', rfl⟩ : ∃ g', gk = g' + 1 := ⟨gk - 1, by omega⟩
                  have d1 : decide ((i : Int) < (c.ds.n : Int)) = true := decide_eq_true (by omega)
                  have j0 : (0 : Int) ≤ (i : Int) := by omega
                  have j1 : (i : Int) < (c.ds.n : Int) := by omega
                  have j2 : (i : Int) < (d.ds.n : Int) := by have := Lds.out; omega
                  have j3 : i < d.ds.n := by have := Lds.out; omega
                  obtain ⟨b, off, b2, off2, ha, ha2, hc⟩ := Tds.out i hlt (by have := Lds.out; omega)
                  have CC : Hid (∀ X, SI w X c d → X.cell? ⟨w.heap.size, 11, none⟩ = some (.slice (some ⟨b, off, none⟩) c.ds.n c.ds.c) ∧ X.cell? ⟨w.heap.size + 1, 11, none⟩ = some (.slice (some ⟨b2, off2, none⟩) d.ds.n d.ds.c) ∧ X.cell? ⟨b, off + i * 3 + 2, none⟩ = some (.slice (l1.getD i d0).2.a (l1.getD i d0).2.n (l1.getD i d0).2.c) ∧ X.cell? ⟨b2, off2 + i * 3 + 2, none⟩ = some (.slice (l2.getD i d0).2.a (l2.getD i d0).2.n (l2.getD i d0).2.c)) := fun X hX => by
                    refine ⟨by rw [← ha]; exact blk_cell hX.b1 11, by rw [← ha2]; exact blk_cell hX.b2 11, ?_, ?_⟩
                    · have := (hc X hX.be 2 (by omega)).1; rw [← Nat.add_assoc] at this; exact this
                    · have := (hc X hX.be 2 (by omega)).2; rw [← Nat.add_assoc] at this; exact this
                  have CD : Hid (∀ X, SI w X c d → X.cell? ⟨b, off + i * 3, none⟩ = some (.int .i64 (l1.getD i d0).1.1) ∧ X.cell? ⟨b2, off2 + i * 3, none⟩ = some (.int .i64 (l1.getD i d0).1.1) ∧ X.cell? ⟨b, off + i * 3 + 1, none⟩ = some (.int .i64 (l1.getD i d0).1.2.1) ∧ X.cell? ⟨b2, off2 + i * 3 + 1, none⟩ = some (.int .i64 (l1.getD i d0).1.2.1)) := fun X hX => by
                    have hh := Hds.out i hlt
                    refine ⟨(hc X hX.be 0 (by omega)).1, by rw [hh]; exact (hc X hX.be 0 (by omega)).2, ?_, ?_⟩
                    · have := (hc X hX.be 1 (by omega)).1; rw [← Nat.add_assoc] at this; exact this
                    · rw [hh]; have := (hc X hX.be 1 (by omega)).2; rw [← Nat.add_assoc] at this; exact this
                  have IT : Hid (∀ X, SI w X c d → Calls Try.prog 25 #[.slice (l1.getD i d0).2.a (l1.getD i d0).2.n (l1.getD i d0).2.c, .slice (l2.getD i d0).2.a (l2.getD i d0).2.n (l2.getD i d0).2.c] X fun e Y => e = .returned (.bool true) ∧ SI w Y c d) := fun X hX => IDs.out X hX i hlt
                  clear hc ha ha2 q1 q2
                  have q1 := (CC.out wr HS.out).1
                  generalize (l1.getD i d0).1.1 = y1 at CD
                  generalize (l1.getD i d0).1.2.1 = y2 at CD
                  generalize (l1.getD i d0).2 = s1 at CC IT
                  generalize (l2.getD i d0).2 = s2 at CC IT
                  have e1 : (y1 != y1) = false := by simp
                  have e2 : (y2 != y2) = false := by simp
                  go_wp2
                  refine wp_region_held_drew (S := (fun X => SI w X c d)) (by kernel_rfl) HS.out.drew (fun hHeld => ?_)
                  refine wpAnyH_take (i := 0) (v := ?_) rfl (by kernel_rfl) (by kernel_rfl) (by kernel_rfl) (fun _ _ _ h => h) (Or.inl ⟨by kernel_rfl, ?y0d⟩) hHeld ?r0d
                  case y0d => (intro wq hSw; go_simp; try rfl)
                  simp only [Act.put, List.setIfInBounds_toArray, List.set_cons_zero, List.set_cons_succ]
                  refine wpAnyH_take (i := 1) (v := ?_) rfl (by kernel_rfl) (by kernel_rfl) (by kernel_rfl) (fun _ _ _ h => h) (Or.inl ⟨by kernel_rfl, ?y1d⟩) hHeld ?r1d
                  case y1d => (intro wq hSw; have q := (CC.out wq hSw).1; go_simp; try rfl)
                  simp only [Act.put, List.setIfInBounds_toArray, List.set_cons_zero, List.set_cons_succ]
                  refine wpAnyH_take (i := 2) (v := ?_) rfl (by kernel_rfl) (by kernel_rfl) (by kernel_rfl) (fun _ _ _ h => h) (Or.inl ⟨by kernel_rfl, ?y2d⟩) hHeld ?r2d
                  case y2d => (intro wq hSw; go_simp; try rfl)
                  simp only [Act.put, List.setIfInBounds_toArray, List.set_cons_zero, List.set_cons_succ]
                  refine wpAnyH_take (i := 3) (v := ?_) rfl (by kernel_rfl) (by kernel_rfl) (by kernel_rfl) (fun _ _ _ h => h) (Or.inl ⟨by kernel_rfl, ?y3d⟩) hHeld ?r3d
                  case y3d => (intro wq hSw; go_simp; try rfl)
                  simp only [Act.put, List.setIfInBounds_toArray, List.set_cons_zero, List.set_cons_succ]
                  refine wpAnyH_take (i := 4) (v := ?_) rfl (by kernel_rfl) (by kernel_rfl) (by kernel_rfl) (fun _ _ _ h => h) (Or.inl ⟨by kernel_rfl, ?y4d⟩) hHeld ?r4d
                  case y4d => (intro wq hSw; go_simp; try rfl)
                  simp only [Act.put, List.setIfInBounds_toArray, List.set_cons_zero, List.set_cons_succ]
                  refine wpAnyH_take (i := 5) (v := ?_) rfl (by kernel_rfl) (by kernel_rfl) (by kernel_rfl) (fun _ _ _ h => h) (Or.inl ⟨by kernel_rfl, ?y5d⟩) hHeld ?r5d
                  case y5d => (intro wq hSw; have q := (CC.out wq hSw).2.2.1; go_simp; try rfl)
                  simp only [Act.put, List.setIfInBounds_toArray, List.set_cons_zero, List.set_cons_succ]
                  refine wpAnyH_take (i := 6) (v := ?_) rfl (by kernel_rfl) (by kernel_rfl) (by kernel_rfl) (fun _ _ _ h => h) (Or.inl ⟨by kernel_rfl, ?y6d⟩) hHeld ?r6d
                  case y6d => (intro wq hSw; go_simp; try rfl)
                  simp only [Act.put, List.setIfInBounds_toArray, List.set_cons_zero, List.set_cons_succ]
                  refine wpAnyH_take (i := 7) (v := ?_) rfl (by kernel_rfl) (by kernel_rfl) (by kernel_rfl) (fun _ _ _ h => h) (Or.inl ⟨by kernel_rfl, ?y7d⟩) hHeld ?r7d
                  case y7d => (intro wq hSw; have q := (CC.out wq hSw).2.1; go_simp; try rfl)
                  simp only [Act.put, List.setIfInBounds_toArray, List.set_cons_zero, List.set_cons_succ]
                  refine wpAnyH_take (i := 8) (v := ?_) rfl (by kernel_rfl) (by kernel_rfl) (by kernel_rfl) (fun _ _ _ h => h) (Or.inl ⟨by kernel_rfl, ?y8d⟩) hHeld ?r8d
                  case y8d => (intro wq hSw; go_simp; try rfl)
                  simp only [Act.put, List.setIfInBounds_toArray, List.set_cons_zero, List.set_cons_succ]
                  refine wpAnyH_take (i := 9) (v := ?_) rfl (by kernel_rfl) (by kernel_rfl) (by kernel_rfl) (fun _ _ _ h => h) (Or.inl ⟨by kernel_rfl, ?y9d⟩) hHeld ?r9d
                  case y9d => (intro wq hSw; go_simp; try rfl)
                  simp only [Act.put, List.setIfInBounds_toArray, List.set_cons_zero, List.set_cons_succ]
                  refine wpAnyH_take (i := 10) (v := ?_) rfl (by kernel_rfl) (by kernel_rfl) (by kernel_rfl) (fun _ _ _ h => h) (Or.inl ⟨by kernel_rfl, ?y10d⟩) hHeld ?r10d
                  case y10d => (intro wq hSw; go_simp; try rfl)
                  simp only [Act.put, List.setIfInBounds_toArray, List.set_cons_zero, List.set_cons_succ]
                  refine wpAnyH_take (i := 11) (v := ?_) rfl (by kernel_rfl) (by kernel_rfl) (by kernel_rfl) (fun _ _ _ h => h) (Or.inl ⟨by kernel_rfl, ?y11d⟩) hHeld ?r11d
                  case y11d => (intro wq hSw; have q := (CC.out wq hSw).2.2.2; go_simp; try rfl)
                  simp only [Act.put, List.setIfInBounds_toArray, List.set_cons_zero, List.set_cons_succ]
                  refine wpAnyH_ready (rs := [12]) (by kernel_rfl) (by simp) ?_
                  refine AllReadyH.cons rfl (fun K hK => ?_) AllReadyH.nil
                  go_simp
                  go_wp2_with (go_at_call 25; refine (IT.out _ HS.out.drew).mono ?_; rintro e w5 ⟨rfl, h5⟩; have H5 := hid_of h5; clear h5)
                  refine hK.out _ _ H5.out (fun _ => ?_)
                  clear hK K
                  refine wpAnyH_ready (rs := [13]) (by kernel_rfl) (by simp) ?_
                  refine AllReadyH.cons rfl (fun K hK => ?_) AllReadyH.nil
                  go_simp
                  refine hK.out _ _ H5.out (fun _ => ?_)
                  clear hK K
                  refine wpAnyH_done (by kernel_rfl) ?_ _
                  clear hHeld
                  obtain ⟨p1, p2, _, _⟩ := CC.out _ H5.out
                  obtain ⟨p3, p4, p5, p6⟩ := CD.out _ H5.out
                  clear CC CD IT
                  go_wp2
                  go_region
                  all_goals
                    go_wp2
                    go_roundg g'
                    case measure => omega
                    case rel => exact ⟨i + 1, by simp, by omega, H5.out.drew⟩
                · have d1 : decide ((i : Int) < (c.ds.n : Int)) = false := decide_eq_false (by omega)
                  have z4 := HS
                  go_wp2
                  go_loopg [10] c.fx.n (fun gf t10 wx => ∃ i : Nat, t10 = .int .i64 (i : Int) ∧ i + gf = c.fx.n ∧ Hid (SI w wx c d))
                  case atStart => exact ⟨0, rfl, by omega, z4.out⟩
                  case round =>
                    obtain ⟨i, rfl, hi, HS⟩ := hrel
                    have q1 : wr.cell? ⟨w.heap.size, 12, none⟩ = some (.slice c.fx.a c.fx.n c.fx.c) := blk_cell HS.out.b1 12
                    have q2 : wr.cell? ⟨w.heap.size + 1, 12, none⟩ = some (.slice d.fx.a d.fx.n d.fx.c) := blk_cell HS.out.b2 12
                    by_cases hlt : i < c.fx.n
                    · obtain ⟨g', rfl⟩ : ∃ g', gk = g' + 1 := ⟨gk - 1, by omega⟩
                      have d1 : decide ((i : Int) < (c.fx.n : Int)) = true := decide_eq_true (by omega)
                      have j0 : (0 : Int) ≤ (i : Int) := by omega
                      have j1 : (i : Int) < (c.fx.n : Int) := by omega
                      have j2 : (i : Int) < (d.fx.n : Int) := by have := Lfx.out; omega
                      have j3 : i < d.fx.n := by have := Lfx.out; omega
                      have hil : i < o.fixes.length := by have := Lfx.out; omega
                      obtain ⟨b, off, b2, off2, ha, ha2, hc⟩ := Tfx.out i hil
                      have hcc := hc wr HS.out.be
                      rw [ha] at q1
                      rw [ha2] at q2
                      generalize o.fixes[i] = y at hcc
                      have k0 : wr.cell? ⟨b, off + i * 4, none⟩ = some (.int .i64 y.1) := by have := (hcc 0 (by omega)).1; exact this
                      have h0 : wr.cell? ⟨b2, off2 + i * 4, none⟩ = some (.int .i64 y.1) := by have := (hcc 0 (by omega)).2; exact this
                      have k1 : wr.cell? ⟨b, off + i * 4 + 1, none⟩ = some (.int .i64 y.2.1) := by have := (hcc 1 (by omega)).1; rw [← Nat.add_assoc] at this; exact this
                      have h1 : wr.cell? ⟨b2, off2 + i * 4 + 1, none⟩ = some (.int .i64 y.2.1) := by have := (hcc 1 (by omega)).2; rw [← Nat.add_assoc] at this; exact this
                      have k2 : wr.cell? ⟨b, off + i * 4 + 2, none⟩ = some (.int .i64 y.2.2.1) := by have := (hcc 2 (by omega)).1; rw [← Nat.add_assoc] at this; exact this
                      have h2 : wr.cell? ⟨b2, off2 + i * 4 + 2, none⟩ = some (.int .i64 y.2.2.1) := by have := (hcc 2 (by omega)).2; rw [← Nat.add_assoc] at this; exact this
                      have k3 : wr.cell? ⟨b, off + i * 4 + 3, none⟩ = some (.int .i64 y.2.2.2) := by have := (hcc 3 (by omega)).1; rw [← Nat.add_assoc] at this; exact this
                      have h3 : wr.cell? ⟨b2, off2 + i * 4 + 3, none⟩ = some (.int .i64 y.2.2.2) := by have := (hcc 3 (by omega)).2; rw [← Nat.add_assoc] at this; exact this
                      clear hc hcc
                      go_wp2
                      go_region
                      all_goals
                        go_wp2
                        go_roundg g'
                        case measure => omega
                        case rel => exact ⟨i + 1, by simp, by omega, HS.out.drew⟩
                    · have d1 : decide ((i : Int) < (c.fx.n : Int)) = false := decide_eq_false (by omega)
                      have lo1 := loadO_run HS.out.b1
                      have lo2 := loadO_run HS.out.b2
                      go_wp2_with (go_at_call 26; refine (PE.out _ HS.out).mono ?_; rintro e w9 ⟨rfl, hb9⟩)
                      go_ret
                      exact ⟨rfl, hb9⟩
end Go.Proofs.Ytmfdomabegaidaa
