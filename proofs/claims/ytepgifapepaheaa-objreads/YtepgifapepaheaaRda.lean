/-
  Layer 7: whether an object's variables, those that are shown, and its strings are right.
-/
import Derived.Test.YtepgifapepaheaaRhd
namespace Go.Proofs.Ytepgifapepaheaa
set_option linter.unusedVariables false
set_option linter.unusedSimpArgs false
open Go.ChangeShapes Go.WideShapes Go.ChangeAt Go.RowKit
attribute [local go_sem] Oc.at0 Oc.at1 Oc.at2 Oc.at3 Oc.at4 Oc.at5 Oc.at6 Oc.at7 Oc.at8 Oc.at9 Oc.at10 Oc.at11 Oc.at12

/-- A row of things of one cell. -/
theorem RdV.ones {X : World} {α : Type} {val : α → Value} {s : Sl} {l : List α} (h : RdV X 1 s l.length (l.map val)) (x : Nat → α) (hx : ∀ j (hj : j < l.length), x j = l[j]) : l.length = 0 ∨ ∃ g off, s.a = some ⟨g, off, none⟩ ∧ g < X.heap.size ∧ ∀ j, j < l.length → X.cell? ⟨g, off + j, none⟩ = some (val (x j)) := by
  rcases h.at_ with h0 | ⟨g, off, h1, h2, h3⟩
  · exact .inl h0
  · refine .inr ⟨g, off, h1, h2, fun j hj => h3 j _ ?_⟩
    rw [hx j hj, List.getElem?_map, List.getElem?_eq_getElem hj]; rfl
theorem getD_at {α : Type} (l : List α) (d : α) (j : Nat) (hj : j < l.length) : l.getD j d = l[j] := by rw [List.getD_eq_getElem?_getD, List.getElem?_eq_getElem hj]; rfl
def sizeB (n : Int) : Bool := decide (1 ≤ n) && decide (n ≤ 16384)
theorem cl_size (i n : Int) (w : World) : Calls Try.prog 61 #[.int .i64 i, .int .i64 n] w fun e w' => e = .returned (.bool (sizeB n)) ∧ w' = w := by
  unfold sizeB
  cases h1 : decide (1 ≤ n) <;> cases h2 : decide (n ≤ 16384)
  all_goals
    go_enter Try.func61, Try.ntmps61
    go_wp2
    go_ret
    exact ⟨rfl, rfl⟩
theorem cl_short (i : Int) (s : ByteArray) (hs : s.size ≤ 140737488355328) (w : World) : Calls Try.prog 63 #[.int .i64 i, .string s] w fun e w' => e = .returned (.bool (decide ((s.size : Int) ≤ 200))) ∧ w' = w := by
  cases h1 : decide ((s.size : Int) ≤ 200)
  all_goals
    go_enter Try.func63, Try.ntmps63
    go_wp2
    go_ret
    exact ⟨rfl, rfl⟩
def shownB (vars : Nat) (l : List Int) (i : Nat) (n : Int) : Bool := fromB n vars && (decide (i = 0) || decide (l.getD (i - 1) 0 < n))
set_option maxHeartbeats 2000000 in
theorem cl_shown (w : World) (p : Nat) (c : Oc) (l : List Int) (i : Nat) (n : Int) (hi : i < l.length) (h : OAt w p c) (hr : RdV w 1 c.sh l.length (l.map (Value.int .i64))) :
    Calls Try.prog 62 #[.int .i64 (i : Int), .int .i64 n, .pointer (some ⟨p, 0, none⟩)] w fun e w' => e = .returned (.bool (shownB c.va.n l i n)) ∧ w' = w := by
  have FR : Hid (∀ a b X, Calls Try.prog 58 #[.int .i64 a, .int .i64 b] X fun r w' => r = .returned (.bool (fromB a b)) ∧ w' = X) := fun a b X => from0_any a b X
  have c8 : w.cell? ⟨p, 8, none⟩ = some (.slice c.va.a c.va.n c.va.c) := blk_cell h 8
  have c9 : w.cell? ⟨p, 9, none⟩ = some (.slice c.sh.a c.sh.n c.sh.c) := blk_cell h 9
  have hm := hr.most
  have hsn := hr.len
  unfold shownB
  rcases hr.at_ with h0 | ⟨g, off, h1, h2, h3⟩
  · omega
  rw [h1] at c9
  cases hf : fromB n c.va.n
  · simp only [Bool.false_and]
    go_enter Try.func62, Try.ntmps62
    go_wp2_with (go_at_call 58; refine (FR.out _ _ _).mono ?_; rintro e w1 ⟨rfl, hw⟩; rw [hw, hf]; clear hw)
    go_ret
    exact ⟨rfl, rfl⟩
  · simp only [Bool.true_and]
    cases i with
    | zero =>
      go_enter Try.func62, Try.ntmps62
      go_wp2_with (go_at_call 58; refine (FR.out _ _ _).mono ?_; rintro e w1 ⟨rfl, hw⟩; rw [hw, hf]; clear hw)
      go_ret
      exact ⟨rfl, rfl⟩
    | succ i =>
      have e0 : (((i : Int) + 1) == 0) = false := by simp; omega
      have e1 : IntKind.i64.wrap (((i + 1 : Nat) : Int) - 1) = (i : Int) := by rw [IntWalk.i64_left, IntWalk.wrap64_in] <;> omega
      have k0 : w.cell? ⟨g, off + i, none⟩ = some (.int .i64 (l.getD i 0)) := h3 i _ (by rw [getD_at l 0 i (by omega), List.getElem?_map, List.getElem?_eq_getElem (by omega)]; rfl)
      have j0 : (0 : Int) ≤ (i : Int) := by omega
      have j1 : (i : Int) < (c.sh.n : Int) := by omega
      simp only [Nat.add_sub_cancel, Nat.add_eq_zero_iff, Nat.one_ne_zero, and_false, decide_false, Bool.false_or]
      clear h h3
      generalize l.getD i 0 = y at k0 ⊢
      cases d : decide (y < n)
      all_goals
        go_enter Try.func62, Try.ntmps62
        go_wp2_with (go_at_call 58; refine (FR.out _ _ _).mono ?_; rintro e w1 ⟨rfl, hw⟩; rw [hw, hf]; clear hw)
        go_ret
        exact ⟨rfl, rfl⟩
def dataB (o : Ob) : Bool := eachB o.vars.length 200 (fun i => sizeB (o.vars.getD i 0)) && eachB o.shown.length 200 (fun i => shownB o.vars.length o.shown i (o.shown.getD i 0)) && eachB o.strs.length 200 (fun i => decide (((o.strs.getD i ⟨#[]⟩).size : Int) ≤ 200))
/-- What stands while rows of an object in a box are looked at. -/
structure DI (w X : World) (c : Oc) (o : Ob) : Prop where
  bx : OAt X w.heap.size c
  rd : ObR X c o
  be : Below w.heap.size w X
theorem DI.below {w X Y : World} {c : Oc} {o : Ob} (h : DI w X c o) (hb : Below X.heap.size X Y) : DI w Y c o := ⟨(hb.block _ h.bx.lt).trans h.bx, h.rd.below hb, h.be.trans (hb.mono (Nat.le_of_lt h.bx.lt))⟩
theorem DI.mk' {w X : World} {c : Oc} {o : Ob} (h : ObR w c o) (hb : Below (w.heap.size + 1) (w.alloc (.cells c.cells 33)) X) : DI w X c o := by
  have h2 : Below w.heap.size w X := ((Below.refl w.heap.size w).alloc (Nat.le_refl _) _).trans (hb.mono (by omega))
  exact ⟨box_at hb, h.below h2, h2⟩
theorem each_vars (w X : World) (c : Oc) (o : Ob) (h : DI w X c o) : Calls Try.prog 59 #[.slice c.va.a c.va.n c.va.c, .int .i64 200, .func (.func 61) #[] #[]] X fun e w' => e = .returned (.bool (eachB o.vars.length 200 (fun i => sizeB (o.vars.getD i 0)))) ∧ DI w w' c o := by
  have := each_size (fun _ X => DI w X c o) (fun X => DI w X c o) (fun i => sizeB (o.vars.getD i 0)) (fun i => o.vars.getD i 0) c.va.a o.vars.length c.va.c 200 X h (fun _ A B hA hb => hA.below hb) (fun _ A hA => hA.rd.va.ones _ (fun j hj => getD_at _ _ j hj)) (fun _ A hA => hA) h.rd.va.most
    (fun _ i hi A hA => (cl_size i _ A).mono fun e Y hh => ⟨hh.1, fun _ => by rw [hh.2]; exact hA, fun _ => by rw [hh.2]; exact hA⟩)
  rw [h.rd.va.len]; exact this
theorem each_shows (w X : World) (c : Oc) (o : Ob) (h : DI w X c o) : Calls Try.prog 59 #[.slice c.sh.a c.sh.n c.sh.c, .int .i64 200, .func (.func 62) #[] #[.pointer (some ⟨w.heap.size, 0, none⟩)]] X fun e w' => e = .returned (.bool (eachB o.shown.length 200 (fun i => shownB o.vars.length o.shown i (o.shown.getD i 0)))) ∧ DI w w' c o := by
  have := each_shown (fun _ X => DI w X c o) (fun X => DI w X c o) (fun i => shownB o.vars.length o.shown i (o.shown.getD i 0)) (fun i => o.shown.getD i 0) c.sh.a o.shown.length c.sh.c 200 w.heap.size X h (fun _ A B hA hb => hA.below hb) (fun _ A hA => hA.rd.sh.ones _ (fun j hj => getD_at _ _ j hj)) (fun _ A hA => hA) h.rd.sh.most
    (fun _ i hi A hA => (cl_shown A w.heap.size c o.shown i _ hi hA.bx hA.rd.sh).mono fun e Y hh => ⟨by rw [← hA.rd.va.len]; exact hh.1, fun _ => by rw [hh.2]; exact hA, fun _ => by rw [hh.2]; exact hA⟩)
  rw [h.rd.sh.len]; exact this
theorem each_strs (w X : World) (c : Oc) (o : Ob) (h : DI w X c o) : Calls Try.prog 64 #[.slice c.st.a c.st.n c.st.c, .int .i64 200, .func (.func 63) #[] #[]] X fun e w' => e = .returned (.bool (eachB o.strs.length 200 (fun i => decide (((o.strs.getD i ⟨#[]⟩).size : Int) ≤ 200)))) ∧ DI w w' c o := by
  have := each_short (fun _ X => DI w X c o) (fun X => DI w X c o) (fun i => decide (((o.strs.getD i ⟨#[]⟩).size : Int) ≤ 200)) (fun i => o.strs.getD i ⟨#[]⟩) c.st.a o.strs.length c.st.c 200 X h (fun _ A B hA hb => hA.below hb) (fun _ A hA => hA.rd.st.ones _ (fun j hj => getD_at _ _ j hj)) (fun _ A hA => hA) h.rd.st.most
    (fun _ i hi A hA => (cl_short i _ (by rw [getD_at _ _ i hi]; exact hA.rd.sz.2.2.2 _ (List.getElem_mem hi)) A).mono fun e Y hh => ⟨hh.1, fun _ => by rw [hh.2]; exact hA, fun _ => by rw [hh.2]; exact hA⟩)
  rw [h.rd.st.len]; exact this
set_option maxHeartbeats 4000000 in
set_option maxRecDepth 20000 in
theorem dataRight_any (w : World) (c : Oc) (o : Ob) (h : ObR w c o) : Calls Try.prog 45 #[.agg c.cells] w fun e w' => e = .returned (.bool (dataB o)) ∧ Below w.heap.size w w' := by
  have E1 : Hid (∀ X, DI w X c o → Calls Try.prog 59 #[.slice c.va.a c.va.n c.va.c, .int .i64 200, .func (.func 61) #[] #[]] X _) := fun X hX => each_vars w X c o hX
  have E2 : Hid (∀ X, DI w X c o → Calls Try.prog 59 #[.slice c.sh.a c.sh.n c.sh.c, .int .i64 200, .func (.func 62) #[] #[.pointer (some ⟨w.heap.size, 0, none⟩)]] X _) := fun X hX => each_shows w X c o hX
  have E3 : Hid (∀ X, DI w X c o → Calls Try.prog 64 #[.slice c.st.a c.st.n c.st.c, .int .i64 200, .func (.func 63) #[] #[]] X _) := fun X hX => each_strs w X c o hX
  have D0 : Hid (DI w (w.alloc (.cells c.cells 33)) c o) := DI.mk' h (Below.refl _ _)
  unfold dataB
  generalize eachB o.vars.length 200 (fun i => sizeB (o.vars.getD i 0)) = b1 at *
  generalize eachB o.shown.length 200 (fun i => shownB o.vars.length o.shown i (o.shown.getD i 0)) = b2 at *
  generalize eachB o.strs.length 200 (fun i => decide (((o.strs.getD i ⟨#[]⟩).size : Int) ≤ 200)) = b3 at *
  clear h
  cases b1 <;> cases b2 <;> cases b3
  all_goals
    go_enter Try.func45, Try.ntmps45
    go_wp2_with (first
      | (go_at_call 64; refine (E3.out _ D2.out).mono ?_; rintro e w3 ⟨rfl, d3⟩; have D3 : Hid (DI w w3 c o) := d3; clear d3)
      | (go_at_call 59; have hx := D1; clear hx; refine (E2.out _ D1.out).mono ?_; rintro e w2 ⟨rfl, d2⟩; have q10 : w2.cell? ⟨w.heap.size, 10, none⟩ = some (.slice c.st.a c.st.n c.st.c) := blk_cell d2.bx 10; have D2 : Hid (DI w w2 c o) := d2; clear d2)
      | (go_at_call 59; refine (E1.out _ D0.out).mono ?_; rintro e w1 ⟨rfl, d1⟩; have q9 : w1.cell? ⟨w.heap.size, 9, none⟩ = some (.slice c.sh.a c.sh.n c.sh.c) := blk_cell d1.bx 9; have D1 : Hid (DI w w1 c o) := d1; clear d1))
    go_ret
    first | exact ⟨rfl, D3.out.be⟩ | exact ⟨rfl, D2.out.be⟩ | exact ⟨rfl, D1.out.be⟩
end Go.Proofs.Ytepgifapepaheaa
