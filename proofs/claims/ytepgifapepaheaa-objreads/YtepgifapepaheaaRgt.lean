/-
  Layer 7: whether an object is right.
-/
import Derived.Test.YtepgifapepaheaaRdc
import Derived.Test.YtepgifapepaheaaRfx
import Derived.Test.YtepgifapepaheaaRor
namespace Go.Proofs.Ytepgifapepaheaa
set_option linter.unusedVariables false
set_option linter.unusedSimpArgs false
open Go.ChangeShapes Go.WideShapes Go.ChangeAt Go.RowKit
attribute [local go_sem] Oc.at0 Oc.at1 Oc.at2 Oc.at3 Oc.at4 Oc.at5 Oc.at6 Oc.at7 Oc.at8 Oc.at9 Oc.at10 Oc.at11 Oc.at12
attribute [local go_sem ↓] loadO_seal

def descsB (ds : List (Int × Int × List Int)) : Bool := eachB ds.length 200 (fun i => descB ds i (ds.getD i (0, 0, [])))
theorem EI.start (w : World) (s : Sl) (l : List ((Int × Int × List Int) × Sl)) (h : RdV w 3 s l.length (flat dEnc l)) (ht : ∀ p ∈ l, RdV w 1 p.2 p.1.2.2.length (p.1.2.2.map (Value.int .i64))) : EI w (w.alloc (.cells #[.slice s.a s.n s.c] 30)) s l := by
  have hb : Below w.heap.size w (w.alloc (.cells #[.slice s.a s.n s.c] 30)) := by go_grown
  exact ⟨h.below hb, fun p hp => (ht p hp).below hb, blk_new _ _, hb⟩
theorem getD_fst (l : List ((Int × Int × List Int) × Sl)) (i : Nat) : (l.map (·.1)).getD i (0, 0, []) = (l.getD i d0).1 := by
  rw [List.getD_eq_getElem?_getD, List.getD_eq_getElem?_getD, List.getElem?_map]
  cases l[i]? <;> rfl
theorem descs_fun (l : List ((Int × Int × List Int) × Sl)) : descsB (l.map (·.1)) = eachB l.length 200 (fun i => descB (l.map (·.1)) i (l.getD i d0).1) := by
  unfold descsB
  rw [List.length_map]
  have hfun : (fun i => descB (l.map (·.1)) i ((l.map (·.1)).getD i (0, 0, []))) = fun i => descB (l.map (·.1)) i (l.getD i d0).1 := funext fun i => by rw [getD_fst]
  rw [hfun]
theorem each_descs (w X : World) (s : Sl) (l : List ((Int × Int × List Int) × Sl)) (h : EI w X s l) : Calls Try.prog 65 #[.slice s.a s.n s.c, .int .i64 200, .func (.func 66) #[] #[.pointer (some ⟨w.heap.size, 0, none⟩)]] X fun e w' => e = .returned (.bool (descsB (l.map (·.1)))) ∧ EI w w' s l := by
  rw [descs_fun, h.rd.len]
  obtain ⟨P, hP⟩ : ∃ P : Nat → Bool, P = fun i => descB (l.map (·.1)) i (l.getD i d0).1 := ⟨_, rfl⟩
  obtain ⟨x, hx⟩ : ∃ x : Nat → (Int × Int × List Int) × Sl, x = fun i => l.getD i d0 := ⟨_, rfl⟩
  rw [← hP]
  have HR : ∀ (i : Nat) (A : World), EI w A s l → l.length = 0 ∨ ∃ g off, s.a = some ⟨g, off, none⟩ ∧ g < A.heap.size ∧ ∀ j, j < l.length → ∀ m, m < 3 → A.cell? ⟨g, off + (j * 3 + m), none⟩ = (dEnc (x j))[m]? := fun _ A hA => hA.rd.many (fun _ => rfl) x (fun j hj => by rw [hx]; exact getD_at l d0 j hj)
  have HC : ∀ (i : Nat), i < l.length → ∀ A, EI w A s l → Calls Try.prog 66 #[.int .i64 (i : Int), .agg (dEnc (x i)), .pointer (some ⟨w.heap.size, 0, none⟩)] A fun e Y => e = .returned (.bool (P i)) ∧ (P i = true → EI w Y s l) ∧ (P i = false → EI w Y s l) := fun i hi A hA => by
    have hmem : x i ∈ l := by rw [hx]; show l.getD i d0 ∈ l; rw [getD_at l d0 i hi]; exact List.getElem_mem hi
    have hc := cl_desc w A s l hA i hi (x i) hmem
    have hPi : descB (l.map (·.1)) i (x i).1 = P i := by rw [hP, hx]
    rw [hPi] at hc
    refine hc.mono ?_
    rintro e Y ⟨h1, h2⟩
    exact ⟨h1, fun _ => h2, fun _ => h2⟩
  clear hP hx
  have hmo := h.rd.most
  generalize l.length = n at *
  exact each_dsc (fun _ X => EI w X s l) (fun X => EI w X s l) P x s.a n s.c 200 w.heap.size X h (fun _ A B hA hb => hA.below hb) HR (fun _ A hA => hA) hmo (fun _ i hi A hA => HC i hi A hA)
theorem descsRight_any (w : World) (s : Sl) (l : List ((Int × Int × List Int) × Sl)) (h : RdV w 3 s l.length (flat dEnc l)) (ht : ∀ p ∈ l, RdV w 1 p.2 p.1.2.2.length (p.1.2.2.map (Value.int .i64))) :
    Calls Try.prog 46 #[.slice s.a s.n s.c] w fun e w' => e = .returned (.bool (descsB (l.map (·.1)))) ∧ Below w.heap.size w w' := by
  have EA : Hid (Calls Try.prog 65 #[.slice s.a s.n s.c, .int .i64 200, .func (.func 66) #[] #[.pointer (some ⟨w.heap.size, 0, none⟩)]] _ _) := each_descs w _ s l (EI.start w s l h ht)
  clear h ht
  generalize descsB (l.map (·.1)) = b at *
  go_enter Try.func46, Try.ntmps46
  go_wp2_with (go_at_call 65; refine EA.out.mono ?_; rintro e w1 ⟨rfl, he⟩)
  go_ret
  exact ⟨rfl, he.be⟩
def fixesB (o : Ob) : Bool := eachB o.fixes.length 65536 (fun i => fixB o i (o.fixes.getD i (0, 0, 0, 0)))
theorem each_fixes (w X : World) (c : Oc) (o : Ob) (h : DI w X c o) : Calls Try.prog 68 #[.slice c.fx.a c.fx.n c.fx.c, .int .i64 65536, .func (.func 69) #[] #[.pointer (some ⟨w.heap.size, 0, none⟩)]] X fun e w' => e = .returned (.bool (fixesB o)) ∧ DI w w' c o := by
  have := each_fix (fun _ X => DI w X c o) (fun X => DI w X c o) (fun i => fixB o i (o.fixes.getD i (0, 0, 0, 0))) (fun i => o.fixes.getD i (0, 0, 0, 0)) c.fx.a o.fixes.length c.fx.c 65536 w.heap.size X h (fun _ A B hA hb => hA.below hb) (fun _ A hA => hA.rd.fx.many (fun x => rfl) _ (fun j hj => getD_at _ _ j hj)) (fun _ A hA => hA) h.rd.fx.most
    (fun _ i hi A hA => (cl_fixr w A c o hA i hi _).mono fun e Y hh => ⟨hh.1, fun _ => hh.2, fun _ => hh.2⟩)
  rw [h.rd.fx.len]; exact this
theorem fixesRight_any (w : World) (c : Oc) (o : Ob) (h : ObR w c o) : Calls Try.prog 47 #[.agg c.cells] w fun e w' => e = .returned (.bool (fixesB o)) ∧ Below w.heap.size w w' := by
  have EA : Hid (Calls Try.prog 68 #[.slice c.fx.a c.fx.n c.fx.c, .int .i64 65536, .func (.func 69) #[] #[.pointer (some ⟨w.heap.size, 0, none⟩)]] (w.alloc (.cells c.cells 33)) _) := each_fixes w _ c o (DI.mk' h (Below.refl _ _))
  clear h
  generalize fixesB o = b at *
  go_enter Try.func47, Try.ntmps47
  go_wp2_with (go_at_call 68; refine EA.out.mono ?_; rintro e w1 ⟨rfl, he⟩)
  go_ret
  exact ⟨rfl, he.be⟩
def rightB (o : Ob) : Bool := headB o && (procsB o && (dataB o && (descsB o.descs && fixesB o)))
set_option maxHeartbeats 4000000 in
set_option maxRecDepth 20000 in
theorem right_any (w : World) (c : Oc) (o : Ob) (h : ObR w c o) : Calls Try.prog 13 #[.agg c.cells] w fun e w' => e = .returned (.bool (rightB o)) ∧ Below w.heap.size w w' := by
  have D0 : Hid (DI w (w.alloc (.cells c.cells 33)) c o) := DI.mk' h (Below.refl _ _)
  have LO : Hid (∀ X, DI w X c o → (loadO ⟨w.heap.size, 0, none⟩).run Try.prog X = .ok (.agg c.cells) X ∧ X.cell? ⟨w.heap.size, 11, none⟩ = some (.slice c.ds.a c.ds.n c.ds.c)) := fun X hX => ⟨loadO_run hX.bx, blk_cell hX.bx 11⟩
  have H1 : Hid (∀ X, DI w X c o → Calls Try.prog 43 #[.agg c.cells] X fun e Y => e = .returned (.bool (headB o)) ∧ DI w Y c o) := fun X hX => (headRight_any X c o hX.rd).mono fun e Y hh => ⟨hh.1, hX.below hh.2⟩
  have H2 : Hid (∀ X, DI w X c o → Calls Try.prog 44 #[.agg c.cells] X fun e Y => e = .returned (.bool (procsB o)) ∧ DI w Y c o) := fun X hX => (procsRight_any X c o hX.rd).mono fun e Y hh => ⟨hh.1, hX.below hh.2⟩
  have H3 : Hid (∀ X, DI w X c o → Calls Try.prog 45 #[.agg c.cells] X fun e Y => e = .returned (.bool (dataB o)) ∧ DI w Y c o) := fun X hX => (dataRight_any X c o hX.rd).mono fun e Y hh => ⟨hh.1, hX.below hh.2⟩
  have H4 : Hid (∀ X, DI w X c o → Calls Try.prog 46 #[.slice c.ds.a c.ds.n c.ds.c] X fun e Y => e = .returned (.bool (descsB o.descs)) ∧ DI w Y c o) := fun X hX => by
    obtain ⟨l, e1, e2, e3⟩ := hX.rd.ds
    rw [← e1]
    exact (descsRight_any X c.ds l e2 e3).mono fun e Y hh => ⟨hh.1, hX.below hh.2⟩
  have H5 : Hid (∀ X, DI w X c o → Calls Try.prog 47 #[.agg c.cells] X fun e Y => e = .returned (.bool (fixesB o)) ∧ DI w Y c o) := fun X hX => (fixesRight_any X c o hX.rd).mono fun e Y hh => ⟨hh.1, hX.below hh.2⟩
  unfold rightB
  generalize headB o = b1 at *
  generalize procsB o = b2 at *
  generalize dataB o = b3 at *
  generalize descsB o.descs = b4 at *
  generalize fixesB o = b5 at *
  obtain ⟨q0, r0⟩ := LO.out _ D0.out
  clear h
  cases b1
  · simp only [Bool.false_and]
    clear H2 H3 H4 H5
    go_enter Try.func13, Try.ntmps13
    go_wp2_with (go_at_call 43; refine (H1.out _ D0.out).mono ?_; rintro e w1 ⟨rfl, d1⟩)
    go_ret
    exact ⟨rfl, d1.be⟩
  simp only [Bool.true_and]
  cases b2
  · simp only [Bool.false_and]
    clear H3 H4 H5
    go_enter Try.func13, Try.ntmps13
    go_wp2_with (first
      | (go_at_call 43; refine (H1.out _ D0.out).mono ?_; rintro e w1 ⟨rfl, d1⟩; obtain ⟨q1, r1⟩ := LO.out _ d1; have D1 := hid_of d1; clear d1)
      | (go_at_call 44; refine (H2.out _ D1.out).mono ?_; rintro e w2 ⟨rfl, d2⟩))
    go_ret
    exact ⟨rfl, d2.be⟩
  simp only [Bool.true_and]
  cases b3
  · simp only [Bool.false_and]
    clear H4 H5
    go_enter Try.func13, Try.ntmps13
    go_wp2_with (first
      | (go_at_call 43; refine (H1.out _ D0.out).mono ?_; rintro e w1 ⟨rfl, d1⟩; obtain ⟨q1, r1⟩ := LO.out _ d1; have D1 := hid_of d1; clear d1)
      | (go_at_call 44; refine (H2.out _ D1.out).mono ?_; rintro e w2 ⟨rfl, d2⟩; obtain ⟨q2, r2⟩ := LO.out _ d2; have D2 := hid_of d2; clear d2)
      | (go_at_call 45; refine (H3.out _ D2.out).mono ?_; rintro e w3 ⟨rfl, d3⟩))
    go_ret
    exact ⟨rfl, d3.be⟩
  simp only [Bool.true_and]
  cases b4
  · simp only [Bool.false_and]
    clear H5
    go_enter Try.func13, Try.ntmps13
    go_wp2_with (first
      | (go_at_call 43; refine (H1.out _ D0.out).mono ?_; rintro e w1 ⟨rfl, d1⟩; obtain ⟨q1, r1⟩ := LO.out _ d1; have D1 := hid_of d1; clear d1)
      | (go_at_call 44; refine (H2.out _ D1.out).mono ?_; rintro e w2 ⟨rfl, d2⟩; obtain ⟨q2, r2⟩ := LO.out _ d2; have D2 := hid_of d2; clear d2)
      | (go_at_call 45; refine (H3.out _ D2.out).mono ?_; rintro e w3 ⟨rfl, d3⟩; obtain ⟨q3, r3⟩ := LO.out _ d3; have D3 := hid_of d3; clear d3)
      | (go_at_call 46; refine (H4.out _ D3.out).mono ?_; rintro e w4 ⟨rfl, d4⟩))
    go_ret
    exact ⟨rfl, d4.be⟩
  simp only [Bool.true_and]
  go_enter Try.func13, Try.ntmps13
  go_wp2_with (first
    | (go_at_call 43; refine (H1.out _ D0.out).mono ?_; rintro e w1 ⟨rfl, d1⟩; obtain ⟨q1, r1⟩ := LO.out _ d1; have D1 := hid_of d1; clear d1)
    | (go_at_call 44; refine (H2.out _ D1.out).mono ?_; rintro e w2 ⟨rfl, d2⟩; obtain ⟨q2, r2⟩ := LO.out _ d2; have D2 := hid_of d2; clear d2)
    | (go_at_call 45; refine (H3.out _ D2.out).mono ?_; rintro e w3 ⟨rfl, d3⟩; obtain ⟨q3, r3⟩ := LO.out _ d3; have D3 := hid_of d3; clear d3)
    | (go_at_call 46; refine (H4.out _ D3.out).mono ?_; rintro e w4 ⟨rfl, d4⟩; obtain ⟨q4, r4⟩ := LO.out _ d4; have D4 := hid_of d4; clear d4)
    | (go_at_call 47; refine (H5.out _ D4.out).mono ?_; rintro e w5 ⟨rfl, d5⟩))
  go_ret
  exact ⟨rfl, d5.be⟩
end Go.Proofs.Ytepgifapepaheaa
