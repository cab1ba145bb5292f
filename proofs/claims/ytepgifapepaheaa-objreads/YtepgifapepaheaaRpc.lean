/-
  Layer 7: whether an object's procedures are right.
-/
import Derived.Test.YtepgifapepaheaaRda
namespace Go.Proofs.Ytepgifapepaheaa
set_option linter.unusedVariables false
set_option linter.unusedSimpArgs false
open Go.ChangeShapes Go.WideShapes Go.ChangeAt Go.RowKit
attribute [local go_sem] Oc.at0 Oc.at1 Oc.at2 Oc.at3 Oc.at4 Oc.at5 Oc.at6 Oc.at7 Oc.at8 Oc.at9 Oc.at10 Oc.at11 Oc.at12

theorem RdV.tqm {X Y : World} {k n m B : Nat} {s : Sl} {cs : List Value} (h : RdV X k s n cs) (t : Tq X Y (fun y => y = m)) (hlo : n = 0 ∨ ∀ ad, s.a = some ad → ad.block < B) (hm : B ≤ m) : RdV Y k s n cs := by
  rcases hlo with h0 | hlo
  · exact ⟨h.len, h.all, h.most, .inl h0⟩
  · exact h.tq t fun ad he => by have := hlo ad he; omega
set_option maxHeartbeats 4000000 in
set_option maxRecDepth 20000 in
theorem cl_proc (w : World) (p q k m : Nat) (N : List Bs) (c : Oc) (names : List ByteArray) (i : Nat) (x : Int) (hi : i < names.length) (h : NmAt w k m N) (hO : OAt w p c) (hq : w.cell? ⟨q, 0, none⟩ = some (.func (.func 76) #[] #[.pointer (some ⟨k, 0, none⟩)])) (hql : q < w.heap.size) (hr : RdV w 1 c.na names.length (names.map Value.string)) (hN : N.length ≤ 500) (hs : names[i].size ≤ 140737488355328) (hpm : p ≠ m) (hqm : q ≠ m) (hgm : ∀ ad, c.na.a = some ad → ad.block ≠ m) (hcn : c.co.n ≤ 140737488355328) :
    Calls Try.prog 60 #[.int .i64 (i : Int), .int .i64 x, .pointer (some ⟨p, 0, none⟩), .pointer (some ⟨q, 0, none⟩)] w fun e w' => e = .returned (.bool (fromB x c.co.n && freshB N names[i])) ∧ (fromB x c.co.n = true → NmAt w' k m (addN N names[i])) ∧ Tq w w' (fun y => y = m) := by
  have FR : Hid (∀ a b X, Calls Try.prog 58 #[.int .i64 a, .int .i64 b] X fun r w' => r = .returned (.bool (fromB a b)) ∧ w' = X) := fun a b X => from0_any a b X
  have c3 : w.cell? ⟨p, 3, none⟩ = some (.slice c.co.a c.co.n c.co.c) := blk_cell hO 3
  have c5 : w.cell? ⟨p, 5, none⟩ = some (.slice c.na.a c.na.n c.na.c) := blk_cell hO 5
  have hsn := hr.len
  have hmo := hr.most
  rcases hr.at_ with h0 | ⟨g, off, h1, h2, h3⟩
  · omega
  have hgm2 := hgm _ h1
  rw [h1] at c5
  have cn : w.cell? ⟨g, off + i, none⟩ = some (.string names[i]) := h3 i _ (by rw [List.getElem?_map, List.getElem?_eq_getElem hi]; rfl)
  have j0 : (0 : Int) ≤ (i : Int) := by omega
  have j1 : (i : Int) < (c.na.n : Int) := by omega
  have FS : Hid (∀ X, Below w.heap.size w X → Calls Try.prog 76 #[.string names[i], .pointer (some ⟨k, 0, none⟩)] X fun e w' => e = .returned (.bool (freshB N names[i])) ∧ NmAt w' k m (addN N names[i]) ∧ Tq w w' (fun y => y = m)) := fun X hX => (fresh_any X k m N (h.below hX) _ hs hN).mono fun e Y hh => ⟨hh.1, hh.2.1, (Tq.below hX).trans hh.2.2⟩
  have KP : Hid (∀ Y, Tq w Y (fun y => y = m) → Y.cell? ⟨p, 3, none⟩ = some (.slice c.co.a c.co.n c.co.c) ∧ Y.cell? ⟨p, 5, none⟩ = some (.slice (some ⟨g, off, none⟩) c.na.n c.na.c) ∧ Y.cell? ⟨q, 0, none⟩ = some (.func (.func 76) #[] #[.pointer (some ⟨k, 0, none⟩)]) ∧ Y.cell? ⟨g, off + i, none⟩ = some (.string names[i])) := fun Y t => ⟨(World.cell?_of_block (a := ⟨p, 3, none⟩) (t.blk p hO.lt hpm)).trans c3, (World.cell?_of_block (a := ⟨p, 5, none⟩) (t.blk p hO.lt hpm)).trans c5, (World.cell?_of_block (a := ⟨q, 0, none⟩) (t.blk q hql hqm)).trans hq, (World.cell?_of_block (a := ⟨g, off + i, none⟩) (t.blk g h2 hgm2)).trans cn⟩
  generalize names[i] = nm at *
  clear h h3 hr hO
  cases hf : fromB x c.co.n
  · simp only [Bool.false_and]
    go_enter Try.func60, Try.ntmps60
    go_wp2
    go_quiet ((go_at_call 58; exact Calls.quiet_of_same (by have := FR.out x c.co.n; rw [hf] at this; exact this _)))
    go_wp2
    go_ret
    exact ⟨rfl, fun e => (by cases e), Tq.below (bdn (Below.refl _ _) _)⟩
  · simp only [Bool.true_and]
    go_enter Try.func60, Try.ntmps60
    go_wp2
    go_region_held3 (fun X => X.cell? ⟨p, 3, none⟩ = some (.slice c.co.a c.co.n c.co.c) ∧ X.cell? ⟨p, 5, none⟩ = some (.slice (some ⟨g, off, none⟩) c.na.n c.na.c) ∧ X.cell? ⟨q, 0, none⟩ = some (.func (.func 76) #[] #[.pointer (some ⟨k, 0, none⟩)]) ∧ X.cell? ⟨g, off + i, none⟩ = some (.string nm))
      (first | exact ⟨c3, c5, hq, cn⟩ | assumption | exact KP.out _ (by assumption))
      (first
        | (go_at_call 58; refine (FR.out _ _ _).mono ?_; rintro e w1 ⟨rfl, hw⟩; obtain rfl := hw.symm; rw [hf]; clear hw)
        | (go_at_call 76; refine (FS.out _ (by go_grown)).mono ?_; rintro e w2 ⟨rfl, n2, t2⟩))
    go_wp2
    go_ret
    exact ⟨rfl, fun _ => n2, t2⟩
theorem RdV.most' {X : World} {k n : Nat} {s : Sl} {cs : List Value} (h : RdV X k s n cs) : s.n ≤ 140737488355328 := by rw [h.len]; exact h.most
def procsB (o : Ob) : Bool := decide (o.names.length = o.procs.length) && decide (o.exps.length = o.procs.length) && (fromB o.ini o.code.length && eachB o.procs.length 100 (fun i => fromB (o.procs.getD i 0) o.code.length && freshB (afterN [] o.names i) (o.names.getD i ⟨#[]⟩)))
/-- What stands while procedures are looked at. -/
structure QI (w X : World) (c : Oc) (o : Ob) (q k m i : Nat) : Prop where
  nm : NmAt X k m (afterN [] o.names i)
  cl : X.cell? ⟨q, 0, none⟩ = some (.func (.func 76) #[] #[.pointer (some ⟨k, 0, none⟩)])
  ql : q < X.heap.size
  di : DI w X c o
  mm : w.heap.size < m ∧ q ≠ m
theorem ObR.lo {w : World} {c : Oc} {o : Ob} (h : ObR w c o) : (o.names.length = 0 ∨ ∀ ad, c.na.a = some ad → ad.block < w.heap.size) := by
  rcases h.na.at_ with h0 | ⟨g, off, h1, h2, _⟩
  · exact .inl h0
  · exact .inr fun ad he => by rw [h1] at he; injection he with he; subst he; exact h2
theorem QI.below {w X Y : World} {c : Oc} {o : Ob} {q k m i : Nat} (h : QI w X c o q k m i) (hb : Below X.heap.size X Y) : QI w Y c o q k m i := ⟨h.nm.below hb, (hb.cell (p := ⟨q, 0, none⟩) h.ql).trans h.cl, Nat.lt_of_lt_of_le h.ql hb.size, h.di.below hb, h.mm⟩
/-- A step that turns the map alone. -/
theorem DI.tq {w X Y : World} {c : Oc} {o : Ob} {m : Nat} (h0 : ObR w c o) (h : DI w X c o) (t : Tq X Y (fun y => y = m)) (hm : w.heap.size < m) : DI w Y c o := by
  have hbe := Below.of_tq h.be t fun x hx => by omega
  exact ⟨h.bx.tq t (by omega), h0.below hbe, hbe⟩
theorem each_procs (w X : World) (c : Oc) (o : Ob) (q k m : Nat) (h0 : ObR w c o) (h : QI w X c o q k m 0) (hl : o.names.length = o.procs.length) :
    Calls Try.prog 59 #[.slice c.pr.a c.pr.n c.pr.c, .int .i64 100, .func (.func 60) #[] #[.pointer (some ⟨w.heap.size, 0, none⟩), .pointer (some ⟨q, 0, none⟩)]] X fun e w' => e = .returned (.bool (eachB o.procs.length 100 (fun i => fromB (o.procs.getD i 0) o.code.length && freshB (afterN [] o.names i) (o.names.getD i ⟨#[]⟩)))) ∧ Below w.heap.size w w' := by
  have hlo := h0.lo
  have := each_proc (fun i X => QI w X c o q k m i) (fun X => Below w.heap.size w X) (fun i => fromB (o.procs.getD i 0) o.code.length && freshB (afterN [] o.names i) (o.names.getD i ⟨#[]⟩)) (fun i => o.procs.getD i 0) c.pr.a o.procs.length c.pr.c 100 w.heap.size q X h (fun i A B hA hb => hA.below hb) (fun i A hA => hA.di.rd.pr.ones _ (fun j hj => getD_at _ _ j hj)) (fun i A hA => hA.di.be) h.di.rd.pr.most
    (fun hm i hi A hA => by
      have hi2 : i < o.names.length := by omega
      have hx := getD_at o.names ⟨#[]⟩ i hi2
      have hlen := afterN_len [] o.names i
      simp only [List.length_nil] at hlen
      have hc := cl_proc A w.heap.size q k m _ c o.names i (o.procs.getD i 0) hi2 hA.nm hA.di.bx hA.cl hA.ql hA.di.rd.na (by omega) (hA.di.rd.sz.2.2.1 _ (List.getElem_mem hi2)) (by have := hA.mm.1; omega) hA.mm.2 (fun ad he => by
        rcases hlo with e | e
        · omega
        · have := e ad he; have := hA.mm.1; omega) hA.di.rd.co.most'
      rw [hA.di.rd.co.len] at hc
      rw [hx]
      refine hc.mono fun e Y hh => ⟨hh.1, fun hp => ⟨?_, (World.cell?_of_block (a := ⟨q, 0, none⟩) (hh.2.2.blk q hA.ql hA.mm.2)).trans hA.cl, Nat.lt_of_lt_of_le hA.ql hh.2.2.size, hA.di.tq h0 hh.2.2 hA.mm.1, hA.mm⟩, fun _ => Below.of_tq hA.di.be hh.2.2 fun x hx => by have := hA.mm.1; omega⟩
      rw [afterN_succ _ _ i hi2]
      exact hh.2.1 (by simp only [Bool.and_eq_true] at hp; exact hp.1))
  rw [h.di.rd.pr.len]; exact this
set_option maxHeartbeats 4000000 in
set_option maxRecDepth 20000 in
theorem procsRight_any (w : World) (c : Oc) (o : Ob) (h : ObR w c o) : Calls Try.prog 44 #[.agg c.cells] w fun e w' => e = .returned (.bool (procsB o)) ∧ Below w.heap.size w w' := by
  have NN : Hid (∀ X, Calls Try.prog 55 #[] X _) := fun X => newNames_any X
  have FR : Hid (∀ a b X, Calls Try.prog 58 #[.int .i64 a, .int .i64 b] X fun r w' => r = .returned (.bool (fromB a b)) ∧ w' = X) := fun a b X => from0_any a b X
  have l1 := h.na.len
  have l2 := h.pr.len
  have l3 := h.ex.len
  have l4 := h.co.len
  have m4 := h.co.most
  have hini := h.ini
  have HO : Hid (ObR w c o) := h
  by_cases hn1 : o.names.length = o.procs.length
  · have e1 : ((c.na.n : Int) != (c.pr.n : Int)) = false := by simp; omega
    by_cases hn2 : o.exps.length = o.procs.length
    · have e2 : ((c.ex.n : Int) != (c.pr.n : Int)) = false := by simp; omega
      have hB : procsB o = (fromB c.ini c.co.n && eachB o.procs.length 100 (fun i => fromB (o.procs.getD i 0) o.code.length && freshB (afterN [] o.names i) (o.names.getD i ⟨#[]⟩))) := by
        unfold procsB; rw [decide_eq_true hn1, decide_eq_true hn2, hini, l4]; rfl
      rw [hB]
      have EA : Hid (∀ X q k m, QI w X c o q k m 0 → Calls Try.prog 59 #[.slice c.pr.a c.pr.n c.pr.c, .int .i64 100, .func (.func 60) #[] #[.pointer (some ⟨w.heap.size, 0, none⟩), .pointer (some ⟨q, 0, none⟩)]] X _) := fun X q k m hX => each_procs w X c o q k m h hX hn1
      have ARM : Hid (∀ w1 k m, NmAt w1 k m [] → (w.alloc (.cells c.cells 33)).heap.size ≤ k → (w.alloc (.cells c.cells 33)).heap.size ≤ m → Below (w.alloc (.cells c.cells 33)).heap.size (w.alloc (.cells c.cells 33)) w1 → ∃ w2, (store ⟨w1.heap.size, 0, none⟩ (.func (.func 76) #[] #[.pointer (some ⟨k, 0, none⟩)])).run Try.prog (w1.alloc (.cells #[.nilFunc] 88)) = .ok () w2 ∧ QI w w2 c o w1.heap.size k m 0 ∧ OAt w2 w.heap.size c) := fun w1 k m hn hk hm hb => by
        obtain ⟨w2, h1, h2, h3⟩ := store_fn w1 (.func 76) #[] #[.pointer (some ⟨k, 0, none⟩)] 88
        have hs := hb.size
        simp at hk hm hs
        have hbx : Below (w.heap.size + 1) (w.alloc (.cells c.cells 33)) w1 := by simpa using hb
        have hb2 : Below (w.heap.size + 1) (w.alloc (.cells c.cells 33)) w2 := hbx.trans (h3.mono (by omega))
        have hml := hn.mp.lt
        exact ⟨w2, h1, ⟨hn.below h3, blk_cell h2 0, (Array.getElem?_eq_some_iff.1 h2).1, DI.mk' HO.out hb2, by omega, by omega⟩, box_at hb2⟩
      generalize eachB o.procs.length 100 (fun i => fromB (o.procs.getD i 0) o.code.length && freshB (afterN [] o.names i) (o.names.getD i ⟨#[]⟩)) = b2 at *
      clear h l1 l2 l3 l4 hini hB hn1 hn2
      cases hf : fromB c.ini c.co.n
      · simp only [Bool.false_and]
        go_enter Try.func44, Try.ntmps44
        go_wp2_with (first
          | (go_at_call 58; refine (FR.out _ _ _).mono ?_; rintro e w1x ⟨rfl, hw⟩; rw [hw, hf]; clear hw)
          | (go_at_call 55; refine (NN.out _).mono ?_; rintro e w1 ⟨k, m, rfl, hn, hk, hm, hb1x⟩; obtain ⟨w2, hst, hq2, o2⟩ := ARM.out w1 k m hn hk hm hb1x; have q7 : w2.cell? ⟨w.heap.size, 7, none⟩ = some (.int .i64 c.ini) := blk_cell o2 7; have q3 : w2.cell? ⟨w.heap.size, 3, none⟩ = some (.slice c.co.a c.co.n c.co.c) := blk_cell o2 3; have q4 : w2.cell? ⟨w.heap.size, 4, none⟩ = some (.slice c.pr.a c.pr.n c.pr.c) := blk_cell o2 4; have Q2 : Hid (QI w w2 c o w1.heap.size k m 0) := hq2; clear hn hk hm hb1x hq2 o2))
        go_ret
        exact ⟨rfl, Q2.out.di.be⟩
      · simp only [Bool.true_and]
        go_enter Try.func44, Try.ntmps44
        go_wp2_with (first
          | (go_at_call 59; refine (EA.out _ _ k m Q2.out).mono ?_; rintro e w4 ⟨rfl, be4⟩)
          | (go_at_call 58; refine (FR.out _ _ _).mono ?_; rintro e w1x ⟨rfl, hw⟩; rw [hw, hf]; clear hw)
          | (go_at_call 55; refine (NN.out _).mono ?_; rintro e w1 ⟨k, m, rfl, hn, hk, hm, hb1x⟩; obtain ⟨w2, hst, hq2, o2⟩ := ARM.out w1 k m hn hk hm hb1x; have q7 : w2.cell? ⟨w.heap.size, 7, none⟩ = some (.int .i64 c.ini) := blk_cell o2 7; have q3 : w2.cell? ⟨w.heap.size, 3, none⟩ = some (.slice c.co.a c.co.n c.co.c) := blk_cell o2 3; have q4 : w2.cell? ⟨w.heap.size, 4, none⟩ = some (.slice c.pr.a c.pr.n c.pr.c) := blk_cell o2 4; have Q2 : Hid (QI w w2 c o w1.heap.size k m 0) := hq2; clear hn hk hm hb1x hq2 o2))
        go_ret
        exact ⟨rfl, be4⟩
    · have e2 : ((c.ex.n : Int) != (c.pr.n : Int)) = true := by simp; omega
      have hB : procsB o = false := by unfold procsB; rw [decide_eq_false hn2]; simp
      rw [hB]
      clear h l1 l2 l3 l4 hini hB hn1 hn2 HO
      go_enter Try.func44, Try.ntmps44
      go_wp2
      go_ret
      exact ⟨rfl, by go_grown⟩
  · have e1 : ((c.na.n : Int) != (c.pr.n : Int)) = true := by simp; omega
    have hB : procsB o = false := by unfold procsB; rw [decide_eq_false hn1]; simp
    rw [hB]
    clear h l1 l2 l3 l4 hini hB hn1 HO
    go_enter Try.func44, Try.ntmps44
    go_wp2
    go_ret
    exact ⟨rfl, by go_grown⟩
end Go.Proofs.Ytepgifapepaheaa
