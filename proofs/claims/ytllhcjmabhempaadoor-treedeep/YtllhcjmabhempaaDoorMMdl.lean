/-
  Layer 9: procedures.
  Layer 9: the boxed reader; a module, plain.
  Layer 9: modules.
-/
import Derived.Test.YtllhcjmabhempaaDoorMApr
import Derived.Test.YtllhcjmabhempaaDoorMSta
import Derived.Deep.DeepCutAuto
namespace Go.Proofs.YtllhcjmabhempaaDoor
set_option linter.unusedVariables false
set_option linter.unusedSimpArgs false
open Go.ChangeShapes Go.WideShapes Go.ChangeAt Go.RowKit


attribute [local go_sem] fieldTk0 fieldTk1 fieldTk3 hmf
attribute [local go_sem ↓] bslNd_seal
attribute [local go_sem] bslNd1_run bslNd2_run
attribute [local go_sem ↓] appN_seal
def Nd.tx : Nd → Bs
  | .mk _ t _ _ _ _ => t
def Nd.fl : Nd → Bool
  | .mk _ _ _ f _ _ => f
def pr5 (z : Bs) (f : Bool) (p : Nat) (l : List Nd) (r : List Tok) : Rs Nd := (endR z r).bind fun _ s => .ok (.mk 6 z 0 f l p) s
def pr4 (o : Nat) (z : Bs) (f : Bool) (p : Nat) (l : List Nd) (r : List Tok) : Rs Nd := if wd r = [82, 69, 84, 85, 82, 78] then (exprR o r.tail).bind fun y s => pr5 z f p (l ++ [.mk 23 [] 0 false [y] (hd r).p]) s else pr5 z f p l r
def pr3 (o : Nat) (z : Bs) (f : Bool) (p : Nat) (l : List Nd) (r : List Tok) : Rs Nd := if wd r = [66, 69, 71, 73, 78] then (blockR o r.tail).bind fun y s => pr4 o z f p (l ++ [y]) s else pr4 o z f p l r
def pr2 (o : Nat) (z : Bs) (f : Bool) (p : Nat) (l : List Nd) (r : List Tok) : Rs Nd := (sectR [86, 65, 82] (varsR o) r).bind fun l3 r => pr3 o z f p (l ++ l3.kids) r
def pr1 (o : Nat) (z : Bs) (f : Bool) (p : Nat) (l : List Nd) (r : List Tok) : Rs Nd := (sectR [67, 79, 78, 83, 84] (constR o) r).bind fun l2 r => pr2 o z f p (l ++ l2.kids) r
theorem proc_eq (o : Nat) (t : List Tok) : procR o t = (mustR [80, 82, 79, 67, 69, 68, 85, 82, 69] t).bind fun x r => (markedR 6 r).bind fun n r => (headR r).bind fun l1 r => (mustR [59] r).bind fun _ r => pr1 o n.tx n.fl x.p l1.kids r := by
  unfold procR
  congr 1; funext x r
  cases hm : markedR 6 r with
  | bad p e => rw [Rs.bind_bad, Rs.bind_bad]
  | ok n r =>
    obtain ⟨z, f, p, rfl⟩ := marked_form hm
    rw [Rs.bind_ok, Rs.bind_ok]
    congr 1; funext l1 r; congr 1; funext _ r
    unfold pr1; congr 1; funext l2 r; unfold pr2; congr 1; funext l3 r
    unfold bodyR pr3
    split
    · rw [Rs.assoc]; congr 1; funext y s
      rw [Rs.bind_ok]
      unfold pr4 pr5
      split
      · rw [Rs.assoc]; rfl
      · rfl
    · rw [Rs.bind_ok]
      unfold pr4 pr5
      split
      · rw [Rs.assoc]; rfl
      · rfl
theorem found_any (w : World) (b g cap : Nat) (L : List Tok) (i o : Nat) (h : RdAt w b g cap L i o) (s : Bs) (hs : s ≠ []) :
    Calls Tryd.prog 32 #[.pointer (some ⟨b, 0, none⟩), .string (bs s)] w fun e w' => e = .returned (.bool (decide (wd (L.drop i) = s))) ∧ St w w' b g cap L (if wd (L.drop i) = s then i + 1 else i) o := by
  by_cases hw : wd (L.drop i) = s
  · refine (found_yes w b g cap L i o h s hs hw).mono ?_
    rintro e w' ⟨rfl, s1⟩
    rw [if_pos hw]
    exact ⟨by simp [hw], s1⟩
  · refine (found_no w b g cap L i o h s hw).mono ?_
    rintro e w' ⟨rfl, s1⟩
    rw [if_neg hw]
    exact ⟨by simp [hw], (St.refl h).below s1⟩
theorem postU_or {w w' : World} {b g cap i o : Nat} {L : List Tok} {R : Rs Tok} {e : Ending} (hP : PostU w b g cap L i o R e w') :
    (∃ x t i', R = .ok x t ∧ e = .returned (.tuple #[]) ∧ t = L.drop i' ∧ i < i' ∧ St w w' b g cap L i' o) ∨ (∃ p er, R = .bad p er ∧ e = gaveUp p er ∧ w.grownBy w' (some b)) := by
  cases R with
  | ok n t => obtain ⟨i', h⟩ := hP; exact .inl ⟨n, t, i', rfl, h⟩
  | bad p er => exact .inr ⟨p, er, rfl, hP⟩
/-- Kids of a node that has been made. -/
theorem FN.first {w X : World} {b g cap : Nat} {L : List Tok} {j o r q B : Nat} {c : Nc} {k : Int} {t : Bs} {fl : Bool} {p : Nat} {a a' : Option Addr} {N m N' m' : Nat} {l' : List Nd} {cs : List Nc} (S : St w X b g cap L j o) (hrow : rowAt X q = some c.cells) (hc : c = ⟨k, bs t, 0, fl, a, N, m, (p : Int)⟩) (room : roomAt X q 6 = true) (res : roomAt X r 6 = true) (hq : w.heap.size ≤ q) (hr : w.heap.size ≤ r) (qr : q ≠ r) (qB : q < B) (rB : r < B) (BX : B ≤ X.heap.size) (bl : b < w.heap.size) (gl : g < w.heap.size) (R : Rw X B (.slice a' N' m') l' cs) (hl : l'.length ≤ j) : FN w (X.setCell ⟨q, 4, none⟩ (.slice a' N' m')) b g cap L j o r q B k t fl p a' N' m' l' where
  st := S.far bl gl _ 4 hq _
  row := by subst hc; exact rowAt_set _ _ _ _ _ hrow
  room := room_set room _ _
  res := (roomAt_far _ _ _ _ _ (by show r ≠ q; exact fun e => qr e.symm)).trans res
  rws := ⟨_, R.step (b := q) qB (gb_set (gb_of_below (Below.refl _ _) q))⟩
  hq := hq
  hr := hr
  qr := qr
  qB := qB
  rB := rB
  BX := by simpa using BX
  len := hl
set_option maxHeartbeats 8000000 in
set_option maxRecDepth 20000 in
theorem procedure_any (w : World) (b g cap : Nat) (L : List Tok) (i o : Nat) (h : RdAt w b g cap L i o) : Calls Tryd.prog 40 #[.pointer (some ⟨b, 0, none⟩)] w (PostN w b g cap L i o (procR o (L.drop i))) := by
  have bl := h.bl
  have gl := h.gl
  have hil := h.il
  have H : Hid (RdAt w b g cap L i o) := h
  have SC : Hid (∀ X j, RdAt X b g cap L j o → Calls Tryd.prog 35 #[.pointer (some ⟨b, 0, none⟩), .string (bs [67, 79, 78, 83, 84]), .func (.func 36) #[.pointer (some ⟨b, 0, none⟩)] #[]] X (PostK X b g cap L j o (sectR [67, 79, 78, 83, 84] (constR o) (L.drop j)))) := fun X j hX => section_constant (constR o) _ (by decide) X b g cap L j o hX (fun Y j2 _ hY => constant_any Y b g cap L j2 o hY)
  have SV : Hid (∀ X j, RdAt X b g cap L j o → Calls Tryd.prog 35 #[.pointer (some ⟨b, 0, none⟩), .string (bs [86, 65, 82]), .func (.func 38) #[.pointer (some ⟨b, 0, none⟩)] #[]] X (PostK X b g cap L j o (sectR [86, 65, 82] (varsR o) (L.drop j)))) := fun X j hX => section_variables (varsR o) _ (by decide) X b g cap L j o hX (fun Y j2 _ hY => variables_any Y b g cap L j2 o hY)
  rw [proc_eq]
  generalize hR : ((mustR [80, 82, 79, 67, 69, 68, 85, 82, 69] (L.drop i)).bind fun x r => (markedR 6 r).bind fun n r => (headR r).bind fun l1 r => (mustR [59] r).bind fun _ r => pr1 o n.tx n.fl x.p l1.kids r) = R
  have HR : Hid (((mustR [80, 82, 79, 67, 69, 68, 85, 82, 69] (L.drop i)).bind fun x r => (markedR 6 r).bind fun n r => (headR r).bind fun l1 r => (mustR [59] r).bind fun _ r => pr1 o n.tx n.fl x.p l1.kids r) = R) := hR
  clear h hR
  go_enter Tryd.func40, Tryd.ntmps40
  go_upto_region 6 with (first
    | (go_at_call 30; have hx := HR; clear hx; refine (must_any _ b g cap L i o (H.out.alloc _) _ (by decide)).mono ?_; intro e w1 hP; rcases postT_or hP with ⟨x1, u1, hm1, rfl, ht1, s1⟩ | ⟨p1, er1, hm1, he, g1⟩ <;> first
        | (have hs1 := s1.size; simp at hs1; have e1 : x1.tk.p = (x1.p : Int) := rfl; have B1 : Hid (St w w1 b g cap L (i + 1) o) := ((St.refl H.out).alloc _).next s1; have m1 : roomAt w1 w.heap.size 6 = true := (s1.room (by simp) (by omega) 6).trans (roomNd_new _ _ _ _ (by simp)); have HR1 : Hid (((markedR 6 (L.drop (i + 1))).bind fun n r => (headR r).bind fun l1 r => (mustR [59] r).bind fun _ r => pr1 o n.tx n.fl x1.p l1.kids r) = R) := (by show _ = _; rw [← HR.out, hm1, Rs.bind_ok, ht1]); clear hP hm1 ht1 s1 HR)
        | (unfold gaveUp at he; subst he; have G : Hid (R = .bad p1 er1 ∧ w.grownBy w1 (some b)) := ⟨by rw [← HR.out, hm1, Rs.bind_bad], gb_trans ((St.refl H.out).alloc _).gb g1⟩; clear hP hm1))
    | (go_at_call 54; refine (marked_any _ b g cap L (i + 1) o B1.out.rd 6).mono ?_; intro e w2 hP; rcases postN_or hP with ⟨n2, t2, c2, i2, hy2, rfl, ht2, hi2, s2, nd2⟩ | ⟨p2, er2, hy2, he, g2⟩ <;> first
        | (have hs2 := s2.size; obtain ⟨z, fl, p2, rfl⟩ := marked_form hy2; obtain ⟨a2, m2, rfl⟩ := leaf_cells nd2; have B2 : Hid (St w w2 b g cap L i2 o ∧ i + 1 < i2) := ⟨B1.out.next s2, hi2⟩; have q2 : roomAt w2 w.heap.size 6 = true := (s2.room (by omega) (by omega) 6).trans m1; have HR2 : Hid (((headR (L.drop i2)).bind fun l1 r => (mustR [59] r).bind fun _ r => pr1 o z fl x1.p l1.kids r) = R) := (by show _ = _; rw [← HR1.out, hy2, Rs.bind_ok, ht2]; rfl); clear hP hy2 ht2 s2 nd2 hi2)
        | (unfold gaveUp at he; subst he; have G : Hid (R = .bad p2 er2 ∧ w.grownBy w2 (some b)) := ⟨by rw [← HR1.out, hy2, Rs.bind_bad], gb_trans B1.out.gb g2⟩; clear hP hy2))
    | (go_at_call 58; refine (heading_any _ b g cap L i2 o (B2.out.1.alloc _).rd).mono ?_; intro e w3 hP; rcases postM_or hP with ⟨n3, t3, a3, N3, m3, i3, cs3, hy3, rfl, ht3, hi3, s3, R3, hl3⟩ | ⟨p3, er3, hy3, he, g3⟩ <;> first
        | (have hs3 := s3.size; simp at hs3; have r3 : rowAt w3 w2.heap.size = some (⟨6, bs z, 0, fl, a2, 0, m2, (x1.p : Int)⟩ : Nc).cells := (s3.row (by simp) (by omega)).trans (rowAt_at _ _ _ _ _ rfl); have k3 : roomAt w3 w2.heap.size 6 = true := (s3.room (by simp) (by omega) 6).trans (roomNd_new _ _ _ _ rfl); have q3 : roomAt w3 w.heap.size 6 = true := (s3.room (by simp; omega) (by omega) 6).trans ((roomAt_old _ _ _ _ (by omega)).trans q2); have c3 := rowAt_cell r3; have f3 : w3.frozen? ⟨w2.heap.size, 4, none⟩ = false := (by have h4 := (room_there k3 4 (by omega)).2; rwa [Nat.zero_add] at h4); have A3 : Hid (FN w (w3.setCell ⟨w2.heap.size, 4, none⟩ (.slice a3 N3 m3)) b g cap L i3 o w.heap.size w2.heap.size (w2.heap.size + 1) 6 z fl x1.p a3 N3 m3 n3.kids ∧ i < i3 ∧ ((mustR [59] (L.drop i3)).bind fun _ r => pr1 o z fl x1.p n3.kids r) = R) := ⟨FN.first ((B2.out.1.alloc _).next s3) r3 rfl k3 q3 (by omega) (Nat.le_refl _) (by omega) (by omega) (by omega) (by omega) bl gl (R3.mono (by simp)) hl3, (by have := B2.out.2; omega), by rw [← HR2.out, hy3, Rs.bind_ok, ht3]⟩; clear hP hy3 ht3 s3 R3 hl3 hi3)
        | (unfold gaveUp at he; subst he; have G : Hid (R = .bad p3 er3 ∧ w.grownBy w3 (some b)) := ⟨by rw [← HR2.out, hy3, Rs.bind_bad], gb_trans (B2.out.1.alloc _).gb g3⟩; clear hP hy3))
    | (go_at_call 30; have hx := A3; clear hx; refine (must_any _ b g cap L i3 o A3.out.1.st.rd [59] (by decide)).mono ?_; intro e w4 hP; rcases postT_or hP with ⟨x4, u4, hm4, rfl, ht4, s4⟩ | ⟨p4, er4, hm4, he, g4⟩ <;> first
        | (have hs4 := s4.size; have A4 : Hid (FN w w4 b g cap L (i3 + 1) o w.heap.size w2.heap.size (w2.heap.size + 1) 6 z fl x1.p a3 N3 m3 n3.kids ∧ i < i3 ∧ pr1 o z fl x1.p n3.kids (L.drop (i3 + 1)) = R) := ⟨A3.out.1.step bl s4 (by omega), A3.out.2.1, by rw [← A3.out.2.2, hm4, Rs.bind_ok, ht4]⟩; clear hP hm4 ht4 s4)
        | (unfold gaveUp at he; subst he; have G : Hid (R = .bad p4 er4 ∧ w.grownBy w4 (some b)) := ⟨by rw [← A3.out.2.2, hm4, Rs.bind_bad], gb_trans A3.out.1.st.gb g4⟩; clear hP hm4)))
  rotate_left
  all_goals try (rw [G.out.1]; exact ⟨rfl, rfl, G.out.2⟩)
  clear B2 HR1 HR2 A3 c3 f3 r3 k3 q3 q2 m1 B1
  have i34 := A4.out.2.1
  go_cut [] (fun Y => ∃ l5 j5 a5 N5 m5, Hid (FN w Y b g cap L j5 o w.heap.size w2.heap.size (w2.heap.size + 1) 6 z fl x1.p a5 N5 m5 l5 ∧ i < j5 ∧ pr2 o z fl x1.p l5 (L.drop j5) = R))
  case first =>
    have D := (A4.out.1).drew bl
    have rD := D.row
    have lD := D.lt
    refine wp_region_held_drew (S := (fun _ => True)) (by kernel_rfl) trivial (fun hHeld => ?_)
    refine wpAnyH_take (i := 0) (v := ?_) rfl (by kernel_rfl) (by kernel_rfl) (by kernel_rfl) (fun _ _ _ h => h) (Or.inl ⟨by rfl, ?y0a⟩) hHeld ?r0a
    case y0a => (intro w2 hSw; (try dsimp only at hSw); go_simp; try rfl)
    simp only [Act.put, List.setIfInBounds_toArray, List.set_cons_zero, List.set_cons_succ]
    refine wpAnyH_take (i := 2) (v := ?_) rfl (by kernel_rfl) (by kernel_rfl) (by kernel_rfl) (fun _ _ _ h => h) (Or.inl ⟨by rfl, ?y2a⟩) hHeld ?r2a
    case y2a => (intro w2 hSw; (try dsimp only at hSw); go_simp; try rfl)
    simp only [Act.put, List.setIfInBounds_toArray, List.set_cons_zero, List.set_cons_succ]
    refine wpAnyH_take (i := 3) (v := ?_) rfl (by kernel_rfl) (by kernel_rfl) (by kernel_rfl) (fun _ _ _ h => h) (Or.inl ⟨by rfl, ?y3a⟩) hHeld ?r3a
    case y3a => (intro w2 hSw; (try dsimp only at hSw); go_simp; try rfl)
    simp only [Act.put, List.setIfInBounds_toArray, List.set_cons_zero, List.set_cons_succ]
    refine wpAnyH_take (i := 4) (v := ?_) rfl (by kernel_rfl) (by kernel_rfl) (by kernel_rfl) (fun _ _ _ h => h) (Or.inl ⟨by rfl, ?y4a⟩) hHeld ?r4a
    case y4a => (intro w2 hSw; (try dsimp only at hSw); go_simp; try rfl)
    simp only [Act.put, List.setIfInBounds_toArray, List.set_cons_zero, List.set_cons_succ]
    refine wpAnyH_ready (rs := [1, 5]) (by kernel_rfl) (by simp) ?_
    refine .cons rfl (fun K hK => ?_) (.cons rfl (fun K hK => ?_) .nil)
    · have cL := rowAt_cell rD
      go_simp
      refine hK.out _ _ trivial (fun _ => ?_)
      clear hK K
      refine wpAnyH_ready (rs := [5]) (by kernel_rfl) (by simp) ?_
      refine .cons rfl (fun K hK => ?_) .nil
      go_simp
      go_wp2_with (go_at_call 35; refine (SC.out _ (i3 + 1) D.st.rd).mono ?_; intro e w5 hP; rcases postK_or hP with ⟨n5, t5, a5, N5, m5, i5, cs5, hy5, rfl, ht5, hi5, s5, R5, hl5⟩ | ⟨p5, er5, hy5, he, g5⟩ <;> first | (have hs5 := s5.size; clear hP) | (unfold gaveUp at he; subst he))
      rotate_left
      · rw [← A4.out.2.2]; unfold pr1; rw [hy5, Rs.bind_bad]; exact ⟨rfl, rfl, gb_trans D.st.gb g5⟩
      have r5 := (D.step bl s5 (by omega)).row
      refine hK.out _ _ trivial (fun _ => ?_)
      clear hK K
      refine wpAnyH_ready (rs := [6]) (by kernel_rfl) (by simp) ?_
      refine .cons rfl (fun K hK => ?_) .nil
      obtain ⟨a6, N6, m6, Y6, hrun6, rY6, fY6, F6, V6⟩ := D.pushes bl gl s5 R5 (by omega)
      clear s5 R5
      go_simp
      refine hK.out _ _ trivial (fun _ => ?_)
      clear hK K
      refine wpAnyH_ready (rs := [7]) (by kernel_rfl) (by simp) ?_
      refine .cons rfl (fun K hK => ?_) .nil
      go_simp
      refine hK.out _ _ trivial (fun _ => ?_)
      clear hK K
      refine wpAnyH_ready (rs := [8]) (by kernel_rfl) (by simp) ?_
      refine .cons rfl (fun K hK => ?_) .nil
      have cY := rowAt_cell rY6
      go_simp
      refine hK.out _ _ trivial (fun _ => ?_)
      clear hK K
      refine wpAnyH_done (by kernel_rfl) ?_ _
      go_wp2_with fail
      go_meet
      exact ⟨_, i5, _, _, _, F6.out, by omega, by rw [← A4.out.2.2]; unfold pr1; rw [hy5, Rs.bind_ok, ht5]⟩
    · go_simp
      go_wp2_with (go_at_call 35; refine (SC.out _ (i3 + 1) D.st.rd).mono ?_; intro e w5 hP; rcases postK_or hP with ⟨n5, t5, a5, N5, m5, i5, cs5, hy5, rfl, ht5, hi5, s5, R5, hl5⟩ | ⟨p5, er5, hy5, he, g5⟩ <;> first | (have hs5 := s5.size; clear hP) | (unfold gaveUp at he; subst he))
      rotate_left
      · rw [← A4.out.2.2]; unfold pr1; rw [hy5, Rs.bind_bad]; exact ⟨rfl, rfl, gb_trans D.st.gb g5⟩
      have r5 := (D.step bl s5 (by omega)).row
      refine hK.out _ _ trivial (fun _ => ?_)
      clear hK K
      refine wpAnyH_ready (rs := [1]) (by kernel_rfl) (by simp) ?_
      refine .cons rfl (fun K hK => ?_) .nil
      have cL := rowAt_cell r5
      go_simp
      refine hK.out _ _ trivial (fun _ => ?_)
      clear hK K
      refine wpAnyH_ready (rs := [6]) (by kernel_rfl) (by simp) ?_
      refine .cons rfl (fun K hK => ?_) .nil
      obtain ⟨a6, N6, m6, Y6, hrun6, rY6, fY6, F6, V6⟩ := D.pushes bl gl s5 R5 (by omega)
      clear s5 R5
      go_simp
      refine hK.out _ _ trivial (fun _ => ?_)
      clear hK K
      refine wpAnyH_ready (rs := [7]) (by kernel_rfl) (by simp) ?_
      refine .cons rfl (fun K hK => ?_) .nil
      go_simp
      refine hK.out _ _ trivial (fun _ => ?_)
      clear hK K
      refine wpAnyH_ready (rs := [8]) (by kernel_rfl) (by simp) ?_
      refine .cons rfl (fun K hK => ?_) .nil
      have cY := rowAt_cell rY6
      go_simp
      refine hK.out _ _ trivial (fun _ => ?_)
      clear hK K
      refine wpAnyH_done (by kernel_rfl) ?_ _
      go_wp2_with fail
      go_meet
      exact ⟨_, i5, _, _, _, F6.out, by omega, by rw [← A4.out.2.2]; unfold pr1; rw [hy5, Rs.bind_ok, ht5]⟩
  case rest =>
  obtain ⟨l5, j5, a5, N5, m5, A5⟩ := hcut
  clear A4 i34
  have i35 := A5.out.2.1
  go_upto_region 7 with fail
  go_cut [] (fun Y => ∃ l6 j6 a6 N6 m6, Hid (FN w Y b g cap L j6 o w.heap.size w2.heap.size (w2.heap.size + 1) 6 z fl x1.p a6 N6 m6 l6 ∧ i < j6 ∧ pr3 o z fl x1.p l6 (L.drop j6) = R))
  case first =>
    have D := (A5.out.1).drew bl
    have rD := D.row
    have lD := D.lt
    refine wp_region_held_drew (S := (fun _ => True)) (by kernel_rfl) trivial (fun hHeld => ?_)
    refine wpAnyH_take (i := 0) (v := ?_) rfl (by kernel_rfl) (by kernel_rfl) (by kernel_rfl) (fun _ _ _ h => h) (Or.inl ⟨by rfl, ?y0b⟩) hHeld ?r0b
    case y0b => (intro w2 hSw; (try dsimp only at hSw); go_simp; try rfl)
    simp only [Act.put, List.setIfInBounds_toArray, List.set_cons_zero, List.set_cons_succ]
    refine wpAnyH_take (i := 2) (v := ?_) rfl (by kernel_rfl) (by kernel_rfl) (by kernel_rfl) (fun _ _ _ h => h) (Or.inl ⟨by rfl, ?y2b⟩) hHeld ?r2b
    case y2b => (intro w2 hSw; (try dsimp only at hSw); go_simp; try rfl)
    simp only [Act.put, List.setIfInBounds_toArray, List.set_cons_zero, List.set_cons_succ]
    refine wpAnyH_take (i := 3) (v := ?_) rfl (by kernel_rfl) (by kernel_rfl) (by kernel_rfl) (fun _ _ _ h => h) (Or.inl ⟨by rfl, ?y3b⟩) hHeld ?r3b
    case y3b => (intro w2 hSw; (try dsimp only at hSw); go_simp; try rfl)
    simp only [Act.put, List.setIfInBounds_toArray, List.set_cons_zero, List.set_cons_succ]
    refine wpAnyH_take (i := 4) (v := ?_) rfl (by kernel_rfl) (by kernel_rfl) (by kernel_rfl) (fun _ _ _ h => h) (Or.inl ⟨by rfl, ?y4b⟩) hHeld ?r4b
    case y4b => (intro w2 hSw; (try dsimp only at hSw); go_simp; try rfl)
    simp only [Act.put, List.setIfInBounds_toArray, List.set_cons_zero, List.set_cons_succ]
    refine wpAnyH_ready (rs := [1, 5]) (by kernel_rfl) (by simp) ?_
    refine .cons rfl (fun K hK => ?_) (.cons rfl (fun K hK => ?_) .nil)
    · have cL := rowAt_cell rD
      go_simp
      refine hK.out _ _ trivial (fun _ => ?_)
      clear hK K
      refine wpAnyH_ready (rs := [5]) (by kernel_rfl) (by simp) ?_
      refine .cons rfl (fun K hK => ?_) .nil
      go_simp
      go_wp2_with (go_at_call 35; refine (SV.out _ j5 D.st.rd).mono ?_; intro e w5 hP; rcases postK_or hP with ⟨n5, t5, a5x, N5x, m5x, i5, cs5, hy5, rfl, ht5, hi5, s5, R5, hl5x⟩ | ⟨p5, er5, hy5, he, g5⟩ <;> first | (have hs5 := s5.size; clear hP) | (unfold gaveUp at he; subst he))
      rotate_left
      · rw [← A5.out.2.2]; unfold pr2; rw [hy5, Rs.bind_bad]; exact ⟨rfl, rfl, gb_trans D.st.gb g5⟩
      have r5 := (D.step bl s5 (by omega)).row
      refine hK.out _ _ trivial (fun _ => ?_)
      clear hK K
      refine wpAnyH_ready (rs := [6]) (by kernel_rfl) (by simp) ?_
      refine .cons rfl (fun K hK => ?_) .nil
      obtain ⟨a6, N6, m6, Y6, hrun6, rY6, fY6, F6, V6⟩ := D.pushes bl gl s5 R5 (by omega)
      clear s5 R5
      go_simp
      refine hK.out _ _ trivial (fun _ => ?_)
      clear hK K
      refine wpAnyH_ready (rs := [7]) (by kernel_rfl) (by simp) ?_
      refine .cons rfl (fun K hK => ?_) .nil
      go_simp
      refine hK.out _ _ trivial (fun _ => ?_)
      clear hK K
      refine wpAnyH_ready (rs := [8]) (by kernel_rfl) (by simp) ?_
      refine .cons rfl (fun K hK => ?_) .nil
      have cY := rowAt_cell rY6
      go_simp
      refine hK.out _ _ trivial (fun _ => ?_)
      clear hK K
      refine wpAnyH_done (by kernel_rfl) ?_ _
      go_wp2_with fail
      go_meet
      exact ⟨_, i5, _, _, _, F6.out, by omega, by rw [← A5.out.2.2]; unfold pr2; rw [hy5, Rs.bind_ok, ht5]⟩
    · go_simp
      go_wp2_with (go_at_call 35; refine (SV.out _ j5 D.st.rd).mono ?_; intro e w5 hP; rcases postK_or hP with ⟨n5, t5, a5x, N5x, m5x, i5, cs5, hy5, rfl, ht5, hi5, s5, R5, hl5x⟩ | ⟨p5, er5, hy5, he, g5⟩ <;> first | (have hs5 := s5.size; clear hP) | (unfold gaveUp at he; subst he))
      rotate_left
      · rw [← A5.out.2.2]; unfold pr2; rw [hy5, Rs.bind_bad]; exact ⟨rfl, rfl, gb_trans D.st.gb g5⟩
      have r5 := (D.step bl s5 (by omega)).row
      refine hK.out _ _ trivial (fun _ => ?_)
      clear hK K
      refine wpAnyH_ready (rs := [1]) (by kernel_rfl) (by simp) ?_
      refine .cons rfl (fun K hK => ?_) .nil
      have cL := rowAt_cell r5
      go_simp
      refine hK.out _ _ trivial (fun _ => ?_)
      clear hK K
      refine wpAnyH_ready (rs := [6]) (by kernel_rfl) (by simp) ?_
      refine .cons rfl (fun K hK => ?_) .nil
      obtain ⟨a6, N6, m6, Y6, hrun6, rY6, fY6, F6, V6⟩ := D.pushes bl gl s5 R5 (by omega)
      clear s5 R5
      go_simp
      refine hK.out _ _ trivial (fun _ => ?_)
      clear hK K
      refine wpAnyH_ready (rs := [7]) (by kernel_rfl) (by simp) ?_
      refine .cons rfl (fun K hK => ?_) .nil
      go_simp
      refine hK.out _ _ trivial (fun _ => ?_)
      clear hK K
      refine wpAnyH_ready (rs := [8]) (by kernel_rfl) (by simp) ?_
      refine .cons rfl (fun K hK => ?_) .nil
      have cY := rowAt_cell rY6
      go_simp
      refine hK.out _ _ trivial (fun _ => ?_)
      clear hK K
      refine wpAnyH_done (by kernel_rfl) ?_ _
      go_wp2_with fail
      go_meet
      exact ⟨_, i5, _, _, _, F6.out, by omega, by rw [← A5.out.2.2]; unfold pr2; rw [hy5, Rs.bind_ok, ht5]⟩
  case rest =>
  obtain ⟨l6, j6, a6, N6, m6, A6⟩ := hcut
  clear A5 i35
  have i36 := A6.out.2.1
  go_upto_if 35 with (go_at_call 32; refine (found_any _ b g cap L j6 o A6.out.1.st.rd [66, 69, 71, 73, 78] (by decide)).mono ?_; rintro e w7 ⟨rfl, s7⟩; have hs7 := s7.size; have S7 : Hid (St _ w7 b g cap L (if wd (L.drop j6) = [66, 69, 71, 73, 78] then j6 + 1 else j6) o) := s7; clear s7)
  go_cut [] (fun Y => ∃ l8 j8 a8 N8 m8, Hid (FN w Y b g cap L j8 o w.heap.size w2.heap.size (w2.heap.size + 1) 6 z fl x1.p a8 N8 m8 l8 ∧ i < j8 ∧ pr4 o z fl x1.p l8 (L.drop j8) = R))
  case first =>
    by_cases hw : wd (L.drop j6) = [66, 69, 71, 73, 78]
    · have d7 : decide (wd (L.drop j6) = [66, 69, 71, 73, 78]) = true := by simpa using hw
      have A7 : Hid (FN w w7 b g cap L (j6 + 1) o w.heap.size w2.heap.size (w2.heap.size + 1) 6 z fl x1.p a6 N6 m6 l6 ∧ ((blockR o (L.drop (j6 + 1))).bind fun y s => pr4 o z fl x1.p (l6 ++ [y]) s) = R ∧ l6.length ≤ j6) := ⟨A6.out.1.step bl (by have := S7.out; rwa [if_pos hw] at this) (by omega), by rw [← A6.out.2.2]; unfold pr3; rw [if_pos hw, List.tail_drop], A6.out.1.len⟩
      clear hw S7
      rw [d7]
      go_upto_region 9 with fail
      have D := (A7.out.1).drew bl
      have rD := D.row
      have lD := D.lt
      refine wp_region_held_drew (S := (fun _ => True)) (by kernel_rfl) trivial (fun hHeld => ?_)
      refine wpAnyH_take (i := 0) (v := ?_) rfl (by kernel_rfl) (by kernel_rfl) (by kernel_rfl) (fun _ _ _ h => h) (Or.inl ⟨by rfl, ?y0c⟩) hHeld ?r0c
      case y0c => (intro w2 hSw; (try dsimp only at hSw); go_simp; try rfl)
      simp only [Act.put, List.setIfInBounds_toArray, List.set_cons_zero, List.set_cons_succ]
      refine wpAnyH_take (i := 2) (v := ?_) rfl (by kernel_rfl) (by kernel_rfl) (by kernel_rfl) (fun _ _ _ h => h) (Or.inl ⟨by rfl, ?y2c⟩) hHeld ?r2c
      case y2c => (intro w2 hSw; (try dsimp only at hSw); go_simp; try rfl)
      simp only [Act.put, List.setIfInBounds_toArray, List.set_cons_zero, List.set_cons_succ]
      refine wpAnyH_ready (rs := [1, 3]) (by kernel_rfl) (by simp) ?_
      refine .cons rfl (fun K hK => ?_) (.cons rfl (fun K hK => ?_) .nil)
      · have cL := rowAt_cell rD
        go_simp
        refine hK.out _ _ trivial (fun _ => ?_)
        clear hK K
        refine wpAnyH_ready (rs := [3]) (by kernel_rfl) (by simp) ?_
        refine .cons rfl (fun K hK => ?_) .nil
        go_simp
        go_wp2_with (go_at_call 41; refine (block_any _ b g cap L (j6 + 1) o D.st.rd).mono ?_; intro e w5 hP; rcases postB_or hP with ⟨n5, t5, c5, i5, hy5, rfl, ht5, hi5, s5, nd5⟩ | ⟨p5, er5, hy5, he, g5⟩ <;> first | (have hs5 := s5.size; clear hP) | (unfold gaveUp at he; subst he))
        rotate_left
        · rw [← A7.out.2.1, hy5, Rs.bind_bad]; exact ⟨rfl, rfl, gb_trans D.st.gb g5⟩
        have r5 := (D.step bl s5 (by omega)).row
        refine hK.out _ _ trivial (fun _ => ?_)
        clear hK K
        refine wpAnyH_ready (rs := [4]) (by kernel_rfl) (by simp) ?_
        refine .cons rfl (fun K hK => ?_) .nil
        go_simp
        have r6 : rowAt (w5.alloc (.cells c5.cells 31)) _ = _ := (rowAt_old _ _ _ (Nat.ne_of_lt (Nat.lt_of_lt_of_le lD.1 hs5))).trans r5
        refine hK.out _ _ trivial (fun _ => ?_)
        clear hK K
        refine wpAnyH_ready (rs := [5]) (by kernel_rfl) (by simp) ?_
        refine .cons rfl (fun K hK => ?_) .nil
        obtain ⟨g6, N6x, cp6, Y6, hrun6, rY6, fY6, F6⟩ := D.push (W := w5.alloc (.cells c5.cells 31)) bl gl s5 nd5 (by have := A7.out.2.2; omega) rfl
        clear s5 nd5
        go_simp
        refine hK.out _ _ trivial (fun _ => ?_)
        clear hK K
        refine wpAnyH_ready (rs := [6]) (by kernel_rfl) (by simp) ?_
        refine .cons rfl (fun K hK => ?_) .nil
        go_simp
        refine hK.out _ _ trivial (fun _ => ?_)
        clear hK K
        refine wpAnyH_ready (rs := [7]) (by kernel_rfl) (by simp) ?_
        refine .cons rfl (fun K hK => ?_) .nil
        have cY := rowAt_cell rY6
        go_simp
        refine hK.out _ _ trivial (fun _ => ?_)
        clear hK K
        refine wpAnyH_done (by kernel_rfl) ?_ _
        go_wp2_with fail
        go_meet
        exact ⟨_, i5, _, _, _, F6.out, by omega, by rw [← A7.out.2.1, hy5, Rs.bind_ok, ht5]⟩
      · go_simp
        go_wp2_with (go_at_call 41; refine (block_any _ b g cap L (j6 + 1) o D.st.rd).mono ?_; intro e w5 hP; rcases postB_or hP with ⟨n5, t5, c5, i5, hy5, rfl, ht5, hi5, s5, nd5⟩ | ⟨p5, er5, hy5, he, g5⟩ <;> first | (have hs5 := s5.size; clear hP) | (unfold gaveUp at he; subst he))
        rotate_left
        · rw [← A7.out.2.1, hy5, Rs.bind_bad]; exact ⟨rfl, rfl, gb_trans D.st.gb g5⟩
        have r5 := (D.step bl s5 (by omega)).row
        refine hK.out _ _ trivial (fun _ => ?_)
        clear hK K
        refine wpAnyH_ready (rs := [1, 4]) (by kernel_rfl) (by simp) ?_
        refine .cons rfl (fun K hK => ?_) (.cons rfl (fun K hK => ?_) .nil)
        · have cL := rowAt_cell r5
          go_simp
          refine hK.out _ _ trivial (fun _ => ?_)
          clear hK K
          refine wpAnyH_ready (rs := [4]) (by kernel_rfl) (by simp) ?_
          refine .cons rfl (fun K hK => ?_) .nil
          go_simp
          have r6 : rowAt (w5.alloc (.cells c5.cells 31)) _ = _ := (rowAt_old _ _ _ (Nat.ne_of_lt (Nat.lt_of_lt_of_le lD.1 hs5))).trans r5
          refine hK.out _ _ trivial (fun _ => ?_)
          clear hK K
          refine wpAnyH_ready (rs := [5]) (by kernel_rfl) (by simp) ?_
          refine .cons rfl (fun K hK => ?_) .nil
          obtain ⟨g6, N6x, cp6, Y6, hrun6, rY6, fY6, F6⟩ := D.push (W := w5.alloc (.cells c5.cells 31)) bl gl s5 nd5 (by have := A7.out.2.2; omega) rfl
          clear s5 nd5
          go_simp
          refine hK.out _ _ trivial (fun _ => ?_)
          clear hK K
          refine wpAnyH_ready (rs := [6]) (by kernel_rfl) (by simp) ?_
          refine .cons rfl (fun K hK => ?_) .nil
          go_simp
          refine hK.out _ _ trivial (fun _ => ?_)
          clear hK K
          refine wpAnyH_ready (rs := [7]) (by kernel_rfl) (by simp) ?_
          refine .cons rfl (fun K hK => ?_) .nil
          have cY := rowAt_cell rY6
          go_simp
          refine hK.out _ _ trivial (fun _ => ?_)
          clear hK K
          refine wpAnyH_done (by kernel_rfl) ?_ _
          go_wp2_with fail
          go_meet
          exact ⟨_, i5, _, _, _, F6.out, by omega, by rw [← A7.out.2.1, hy5, Rs.bind_ok, ht5]⟩
        · go_simp
          have r6 : rowAt (w5.alloc (.cells c5.cells 31)) _ = _ := (rowAt_old _ _ _ (Nat.ne_of_lt (Nat.lt_of_lt_of_le lD.1 hs5))).trans r5
          refine hK.out _ _ trivial (fun _ => ?_)
          clear hK K
          refine wpAnyH_ready (rs := [1]) (by kernel_rfl) (by simp) ?_
          refine .cons rfl (fun K hK => ?_) .nil
          have cL := rowAt_cell r6
          go_simp
          refine hK.out _ _ trivial (fun _ => ?_)
          clear hK K
          refine wpAnyH_ready (rs := [5]) (by kernel_rfl) (by simp) ?_
          refine .cons rfl (fun K hK => ?_) .nil
          obtain ⟨g6, N6x, cp6, Y6, hrun6, rY6, fY6, F6⟩ := D.push (W := w5.alloc (.cells c5.cells 31)) bl gl s5 nd5 (by have := A7.out.2.2; omega) rfl
          clear s5 nd5
          go_simp
          refine hK.out _ _ trivial (fun _ => ?_)
          clear hK K
          refine wpAnyH_ready (rs := [6]) (by kernel_rfl) (by simp) ?_
          refine .cons rfl (fun K hK => ?_) .nil
          go_simp
          refine hK.out _ _ trivial (fun _ => ?_)
          clear hK K
          refine wpAnyH_ready (rs := [7]) (by kernel_rfl) (by simp) ?_
          refine .cons rfl (fun K hK => ?_) .nil
          have cY := rowAt_cell rY6
          go_simp
          refine hK.out _ _ trivial (fun _ => ?_)
          clear hK K
          refine wpAnyH_done (by kernel_rfl) ?_ _
          go_wp2_with fail
          go_meet
          exact ⟨_, i5, _, _, _, F6.out, by omega, by rw [← A7.out.2.1, hy5, Rs.bind_ok, ht5]⟩
    · have d7 : decide (wd (L.drop j6) = [66, 69, 71, 73, 78]) = false := by simpa using hw
      have A7 : Hid (FN w w7 b g cap L j6 o w.heap.size w2.heap.size (w2.heap.size + 1) 6 z fl x1.p a6 N6 m6 l6 ∧ i < j6 ∧ pr4 o z fl x1.p l6 (L.drop j6) = R) := ⟨A6.out.1.step bl (by have := S7.out; rwa [if_neg hw] at this) (Nat.le_refl _), i36, by rw [← A6.out.2.2]; unfold pr3; rw [if_neg hw]⟩
      clear hw S7
      rw [d7]
      go_wp2_with fail
      go_meet
      exact ⟨_, _, _, _, _, A7⟩
  case rest =>
  obtain ⟨l8, j8, a8, N8, m8, A8⟩ := hcut
  clear A6 S7 i36 hs7
  have i38 := A8.out.2.1
  have k8 := rk (wd (L.drop j8))
  go_upto_if 45 with (go_at_call 39; refine (word_any _ b g cap L j8 o A8.out.1.st.rd).mono ?_; rintro e w9 ⟨rfl, hb9⟩; have A9 : Hid (FN w w9 b g cap L j8 o w.heap.size w2.heap.size (w2.heap.size + 1) 6 z fl x1.p a8 N8 m8 l8 ∧ i < j8 ∧ pr4 o z fl x1.p l8 (L.drop j8) = R) := ⟨A8.out.1.below bl hb9, A8.out.2⟩)
  clear A8 hb9
  go_cut [] (fun Y => ∃ l10 j10 a10 N10 m10, Hid (FN w Y b g cap L j10 o w.heap.size w2.heap.size (w2.heap.size + 1) 6 z fl x1.p a10 N10 m10 l10 ∧ i < j10 ∧ pr5 z fl x1.p l10 (L.drop j10) = R))
  case first =>
    by_cases hw : wd (L.drop j8) = [82, 69, 84, 85, 82, 78]
    · have d9 : decide (wd (L.drop j8) = [82, 69, 84, 85, 82, 78]) = true := by simpa using hw
      have PA : Hid (∀ X, RdAt X b g cap L j8 o → Calls Tryd.prog 52 #[.pointer (some ⟨b, 0, none⟩)] X _) := fun X hX => pass_any X b g cap L j8 o hX (wd_kind (by rw [hw]; decide))
      have HR9 : Hid (((exprR o (L.drop (j8 + 1))).bind fun y s => pr5 z fl x1.p (l8 ++ [.mk 23 [] 0 false [y] (hd (L.drop j8)).p]) s) = R) := by show _ = _; rw [← A9.out.2.2]; unfold pr4; rw [if_pos hw, List.tail_drop]
      clear hw
      generalize hd (L.drop j8) = x9 at PA HR9
      have e9 : x9.tk.p = (x9.p : Int) := rfl
      rw [d9]
      go_upto_region 12 with (go_at_call 52; refine (PA.out _ A9.out.1.st.rd).mono ?_; rintro e w4 ⟨rfl, s4⟩; have hs4 := s4.size; have A10 : Hid (FN w w4 b g cap L (j8 + 1) o w.heap.size w2.heap.size (w2.heap.size + 1) 6 z fl x1.p a8 N8 m8 l8 ∧ l8.length ≤ j8) := ⟨A9.out.1.step bl s4 (by omega), A9.out.1.len⟩; clear s4)
      have D := (A10.out.1).drew bl
      have rD := D.row
      have lD := D.lt
      refine wp_region_held_drew (S := (fun _ => True)) (by kernel_rfl) trivial (fun hHeld => ?_)
      refine wpAnyH_take (i := 0) (v := ?_) rfl (by kernel_rfl) (by kernel_rfl) (by kernel_rfl) (fun _ _ _ h => h) (Or.inl ⟨by rfl, ?y0d⟩) hHeld ?r0d
      case y0d => (intro w2 hSw; (try dsimp only at hSw); go_simp; try rfl)
      simp only [Act.put, List.setIfInBounds_toArray, List.set_cons_zero, List.set_cons_succ]
      refine wpAnyH_take (i := 2) (v := ?_) rfl (by kernel_rfl) (by kernel_rfl) (by kernel_rfl) (fun _ _ _ h => h) (Or.inl ⟨by rfl, ?y2d⟩) hHeld ?r2d
      case y2d => (intro w2 hSw; (try dsimp only at hSw); go_simp; try rfl)
      simp only [Act.put, List.setIfInBounds_toArray, List.set_cons_zero, List.set_cons_succ]
      refine wpAnyH_take (i := 3) (v := ?_) rfl (by kernel_rfl) (by kernel_rfl) (by kernel_rfl) (fun _ _ _ h => h) (Or.inl ⟨by rfl, ?y3d⟩) hHeld ?r3d
      case y3d => (intro w2 hSw; (try dsimp only at hSw); go_simp; try rfl)
      simp only [Act.put, List.setIfInBounds_toArray, List.set_cons_zero, List.set_cons_succ]
      refine wpAnyH_ready (rs := [1, 4]) (by kernel_rfl) (by simp) ?_
      refine .cons rfl (fun K hK => ?_) (.cons rfl (fun K hK => ?_) .nil)
      · have cL := rowAt_cell rD
        go_simp
        refine hK.out _ _ trivial (fun _ => ?_)
        clear hK K
        refine wpAnyH_ready (rs := [4]) (by kernel_rfl) (by simp) ?_
        refine .cons rfl (fun K hK => ?_) .nil
        go_simp
        go_wp2_with (go_at_call 16; refine (expression_any _ b g cap L (j8 + 1) o D.st.rd).mono ?_; intro e w5 hP; rcases postN_or hP with ⟨n5, t5, c5, i5, hy5, rfl, ht5, hi5, s5, nd5⟩ | ⟨p5, er5, hy5, he, g5⟩ <;> first | (have hs5 := s5.size; clear hP) | (unfold gaveUp at he; subst he))
        rotate_left
        · rw [← HR9.out, hy5, Rs.bind_bad]; exact ⟨rfl, rfl, gb_trans D.st.gb g5⟩
        have D5 := D.step bl s5 (by omega)
        have r5 := D5.row
        have l5 := D5.lt
        refine hK.out _ _ trivial (fun _ => ?_)
        clear hK K
        refine wpAnyH_ready (rs := [5]) (by kernel_rfl) (by simp) ?_
        refine .cons rfl (fun K hK => ?_) .nil
        go_simp
        have r6 : rowAt (w5.alloc (.cells c5.cells 31)) _ = _ := (rowAt_old _ _ _ (Nat.ne_of_lt l5.1)).trans r5
        refine hK.out _ _ trivial (fun _ => ?_)
        clear hK K
        refine wpAnyH_ready (rs := [6]) (by kernel_rfl) (by simp) ?_
        refine .cons rfl (fun K hK => ?_) .nil
        go_simp
        go_wp2_with (go_at_call 59; refine (node_any _ _ _ _ _ _).mono ?_; rintro e w7 ⟨rfl, hb7⟩)
        have hs7 := hb7.size
        simp at hs7
        have s7 : St w4.drew w7 b g cap L i5 o := (s5.alloc (.cells c5.cells 31)).below hb7
        have mb7 : w7.heap[w5.heap.size]? = some (.cells c5.cells 31 (0, 0)) := (hb7.block _ (by simp)).trans (heap_new' _ _ rfl)
        have nd7 : NdAt w7 (fun x => w4.drew.heap.size ≤ x) c5 n5 := NdAt.keep (fun x hx _ => hx) (by omega) (fun x hx hl => (hb7.block x (by simp; omega)).trans (((Below.refl _ _).alloc (Nat.le_refl _) _).block x hl)) nd5
        have nf7 := one_made 23 [] x9.p (P := fun x => w4.drew.heap.size ≤ x) hs5 mb7 nd7
        have D7 := D.step bl s7 (by omega)
        have r7 := D7.row
        have l7 := D7.lt
        clear nd7 mb7
        refine hK.out _ _ trivial (fun _ => ?_)
        clear hK K
        refine wpAnyH_ready (rs := [7]) (by kernel_rfl) (by simp) ?_
        refine .cons rfl (fun K hK => ?_) .nil
        go_simp
        have r8 : rowAt (w7.alloc (.cells (⟨23, ⟨#[]⟩, 0, false, some ⟨w5.heap.size, 0, none⟩, 1, 1, (x9.p : Int)⟩ : Nc).cells 31)) _ = _ := (rowAt_old _ _ _ (Nat.ne_of_lt l7.1)).trans r7
        refine hK.out _ _ trivial (fun _ => ?_)
        clear hK K
        refine wpAnyH_ready (rs := [8]) (by kernel_rfl) (by simp) ?_
        refine .cons rfl (fun K hK => ?_) .nil
        obtain ⟨g6, N6, cp6, Y6, hrun6, rY6, fY6, F6⟩ := D.push (W := w7.alloc (.cells (⟨23, ⟨#[]⟩, 0, false, some ⟨w5.heap.size, 0, none⟩, 1, 1, (x9.p : Int)⟩ : Nc).cells 31)) bl gl s7 nf7 (by have := D.len; omega) rfl
        clear s5 nd5 s7 nf7
        go_simp
        refine hK.out _ _ trivial (fun _ => ?_)
        clear hK K
        refine wpAnyH_ready (rs := [9]) (by kernel_rfl) (by simp) ?_
        refine .cons rfl (fun K hK => ?_) .nil
        go_simp
        refine hK.out _ _ trivial (fun _ => ?_)
        clear hK K
        refine wpAnyH_ready (rs := [10]) (by kernel_rfl) (by simp) ?_
        refine .cons rfl (fun K hK => ?_) .nil
        have cY := rowAt_cell rY6
        go_simp
        refine hK.out _ _ trivial (fun _ => ?_)
        clear hK K
        refine wpAnyH_done (by kernel_rfl) ?_ _
        go_wp2_with fail
        go_meet
        exact ⟨_, i5, _, _, _, F6.out, by omega, by rw [← HR9.out, hy5, Rs.bind_ok, ht5]⟩
      · go_simp
        go_wp2_with (go_at_call 16; refine (expression_any _ b g cap L (j8 + 1) o D.st.rd).mono ?_; intro e w5 hP; rcases postN_or hP with ⟨n5, t5, c5, i5, hy5, rfl, ht5, hi5, s5, nd5⟩ | ⟨p5, er5, hy5, he, g5⟩ <;> first | (have hs5 := s5.size; clear hP) | (unfold gaveUp at he; subst he))
        rotate_left
        · rw [← HR9.out, hy5, Rs.bind_bad]; exact ⟨rfl, rfl, gb_trans D.st.gb g5⟩
        have D5 := D.step bl s5 (by omega)
        have r5 := D5.row
        have l5 := D5.lt
        refine hK.out _ _ trivial (fun _ => ?_)
        clear hK K
        refine wpAnyH_ready (rs := [1, 5]) (by kernel_rfl) (by simp) ?_
        refine .cons rfl (fun K hK => ?_) (.cons rfl (fun K hK => ?_) .nil)
        · have cL := rowAt_cell r5
          go_simp
          refine hK.out _ _ trivial (fun _ => ?_)
          clear hK K
          refine wpAnyH_ready (rs := [5]) (by kernel_rfl) (by simp) ?_
          refine .cons rfl (fun K hK => ?_) .nil
          go_simp
          have r6 : rowAt (w5.alloc (.cells c5.cells 31)) _ = _ := (rowAt_old _ _ _ (Nat.ne_of_lt l5.1)).trans r5
          refine hK.out _ _ trivial (fun _ => ?_)
          clear hK K
          refine wpAnyH_ready (rs := [6]) (by kernel_rfl) (by simp) ?_
          refine .cons rfl (fun K hK => ?_) .nil
          go_simp
          go_wp2_with (go_at_call 59; refine (node_any _ _ _ _ _ _).mono ?_; rintro e w7 ⟨rfl, hb7⟩)
          have hs7 := hb7.size
          simp at hs7
          have s7 : St w4.drew w7 b g cap L i5 o := (s5.alloc (.cells c5.cells 31)).below hb7
          have mb7 : w7.heap[w5.heap.size]? = some (.cells c5.cells 31 (0, 0)) := (hb7.block _ (by simp)).trans (heap_new' _ _ rfl)
          have nd7 : NdAt w7 (fun x => w4.drew.heap.size ≤ x) c5 n5 := NdAt.keep (fun x hx _ => hx) (by omega) (fun x hx hl => (hb7.block x (by simp; omega)).trans (((Below.refl _ _).alloc (Nat.le_refl _) _).block x hl)) nd5
          have nf7 := one_made 23 [] x9.p (P := fun x => w4.drew.heap.size ≤ x) hs5 mb7 nd7
          have D7 := D.step bl s7 (by omega)
          have r7 := D7.row
          have l7 := D7.lt
          clear nd7 mb7
          refine hK.out _ _ trivial (fun _ => ?_)
          clear hK K
          refine wpAnyH_ready (rs := [7]) (by kernel_rfl) (by simp) ?_
          refine .cons rfl (fun K hK => ?_) .nil
          go_simp
          have r8 : rowAt (w7.alloc (.cells (⟨23, ⟨#[]⟩, 0, false, some ⟨w5.heap.size, 0, none⟩, 1, 1, (x9.p : Int)⟩ : Nc).cells 31)) _ = _ := (rowAt_old _ _ _ (Nat.ne_of_lt l7.1)).trans r7
          refine hK.out _ _ trivial (fun _ => ?_)
          clear hK K
          refine wpAnyH_ready (rs := [8]) (by kernel_rfl) (by simp) ?_
          refine .cons rfl (fun K hK => ?_) .nil
          obtain ⟨g6, N6, cp6, Y6, hrun6, rY6, fY6, F6⟩ := D.push (W := w7.alloc (.cells (⟨23, ⟨#[]⟩, 0, false, some ⟨w5.heap.size, 0, none⟩, 1, 1, (x9.p : Int)⟩ : Nc).cells 31)) bl gl s7 nf7 (by have := D.len; omega) rfl
          clear s5 nd5 s7 nf7
          go_simp
          refine hK.out _ _ trivial (fun _ => ?_)
          clear hK K
          refine wpAnyH_ready (rs := [9]) (by kernel_rfl) (by simp) ?_
          refine .cons rfl (fun K hK => ?_) .nil
          go_simp
          refine hK.out _ _ trivial (fun _ => ?_)
          clear hK K
          refine wpAnyH_ready (rs := [10]) (by kernel_rfl) (by simp) ?_
          refine .cons rfl (fun K hK => ?_) .nil
          have cY := rowAt_cell rY6
          go_simp
          refine hK.out _ _ trivial (fun _ => ?_)
          clear hK K
          refine wpAnyH_done (by kernel_rfl) ?_ _
          go_wp2_with fail
          go_meet
          exact ⟨_, i5, _, _, _, F6.out, by omega, by rw [← HR9.out, hy5, Rs.bind_ok, ht5]⟩
        · go_simp
          have r6 : rowAt (w5.alloc (.cells c5.cells 31)) _ = _ := (rowAt_old _ _ _ (Nat.ne_of_lt l5.1)).trans r5
          refine hK.out _ _ trivial (fun _ => ?_)
          clear hK K
          refine wpAnyH_ready (rs := [1, 6]) (by kernel_rfl) (by simp) ?_
          refine .cons rfl (fun K hK => ?_) (.cons rfl (fun K hK => ?_) .nil)
          · have cL := rowAt_cell r6
            go_simp
            refine hK.out _ _ trivial (fun _ => ?_)
            clear hK K
            refine wpAnyH_ready (rs := [6]) (by kernel_rfl) (by simp) ?_
            refine .cons rfl (fun K hK => ?_) .nil
            go_simp
            go_wp2_with (go_at_call 59; refine (node_any _ _ _ _ _ _).mono ?_; rintro e w7 ⟨rfl, hb7⟩)
            have hs7 := hb7.size
            simp at hs7
            have s7 : St w4.drew w7 b g cap L i5 o := (s5.alloc (.cells c5.cells 31)).below hb7
            have mb7 : w7.heap[w5.heap.size]? = some (.cells c5.cells 31 (0, 0)) := (hb7.block _ (by simp)).trans (heap_new' _ _ rfl)
            have nd7 : NdAt w7 (fun x => w4.drew.heap.size ≤ x) c5 n5 := NdAt.keep (fun x hx _ => hx) (by omega) (fun x hx hl => (hb7.block x (by simp; omega)).trans (((Below.refl _ _).alloc (Nat.le_refl _) _).block x hl)) nd5
            have nf7 := one_made 23 [] x9.p (P := fun x => w4.drew.heap.size ≤ x) hs5 mb7 nd7
            have D7 := D.step bl s7 (by omega)
            have r7 := D7.row
            have l7 := D7.lt
            clear nd7 mb7
            refine hK.out _ _ trivial (fun _ => ?_)
            clear hK K
            refine wpAnyH_ready (rs := [7]) (by kernel_rfl) (by simp) ?_
            refine .cons rfl (fun K hK => ?_) .nil
            go_simp
            have r8 : rowAt (w7.alloc (.cells (⟨23, ⟨#[]⟩, 0, false, some ⟨w5.heap.size, 0, none⟩, 1, 1, (x9.p : Int)⟩ : Nc).cells 31)) _ = _ := (rowAt_old _ _ _ (Nat.ne_of_lt l7.1)).trans r7
            refine hK.out _ _ trivial (fun _ => ?_)
            clear hK K
            refine wpAnyH_ready (rs := [8]) (by kernel_rfl) (by simp) ?_
            refine .cons rfl (fun K hK => ?_) .nil
            obtain ⟨g6, N6, cp6, Y6, hrun6, rY6, fY6, F6⟩ := D.push (W := w7.alloc (.cells (⟨23, ⟨#[]⟩, 0, false, some ⟨w5.heap.size, 0, none⟩, 1, 1, (x9.p : Int)⟩ : Nc).cells 31)) bl gl s7 nf7 (by have := D.len; omega) rfl
            clear s5 nd5 s7 nf7
            go_simp
            refine hK.out _ _ trivial (fun _ => ?_)
            clear hK K
            refine wpAnyH_ready (rs := [9]) (by kernel_rfl) (by simp) ?_
            refine .cons rfl (fun K hK => ?_) .nil
            go_simp
            refine hK.out _ _ trivial (fun _ => ?_)
            clear hK K
            refine wpAnyH_ready (rs := [10]) (by kernel_rfl) (by simp) ?_
            refine .cons rfl (fun K hK => ?_) .nil
            have cY := rowAt_cell rY6
            go_simp
            refine hK.out _ _ trivial (fun _ => ?_)
            clear hK K
            refine wpAnyH_done (by kernel_rfl) ?_ _
            go_wp2_with fail
            go_meet
            exact ⟨_, i5, _, _, _, F6.out, by omega, by rw [← HR9.out, hy5, Rs.bind_ok, ht5]⟩
          · go_simp
            go_wp2_with (go_at_call 59; refine (node_any _ _ _ _ _ _).mono ?_; rintro e w7 ⟨rfl, hb7⟩)
            have hs7 := hb7.size
            simp at hs7
            have s7 : St w4.drew w7 b g cap L i5 o := (s5.alloc (.cells c5.cells 31)).below hb7
            have mb7 : w7.heap[w5.heap.size]? = some (.cells c5.cells 31 (0, 0)) := (hb7.block _ (by simp)).trans (heap_new' _ _ rfl)
            have nd7 : NdAt w7 (fun x => w4.drew.heap.size ≤ x) c5 n5 := NdAt.keep (fun x hx _ => hx) (by omega) (fun x hx hl => (hb7.block x (by simp; omega)).trans (((Below.refl _ _).alloc (Nat.le_refl _) _).block x hl)) nd5
            have nf7 := one_made 23 [] x9.p (P := fun x => w4.drew.heap.size ≤ x) hs5 mb7 nd7
            have D7 := D.step bl s7 (by omega)
            have r7 := D7.row
            have l7 := D7.lt
            clear nd7 mb7
            refine hK.out _ _ trivial (fun _ => ?_)
            clear hK K
            refine wpAnyH_ready (rs := [1, 7]) (by kernel_rfl) (by simp) ?_
            refine .cons rfl (fun K hK => ?_) (.cons rfl (fun K hK => ?_) .nil)
            · have cL := rowAt_cell r7
              go_simp
              refine hK.out _ _ trivial (fun _ => ?_)
              clear hK K
              refine wpAnyH_ready (rs := [7]) (by kernel_rfl) (by simp) ?_
              refine .cons rfl (fun K hK => ?_) .nil
              go_simp
              have r8 : rowAt (w7.alloc (.cells (⟨23, ⟨#[]⟩, 0, false, some ⟨w5.heap.size, 0, none⟩, 1, 1, (x9.p : Int)⟩ : Nc).cells 31)) _ = _ := (rowAt_old _ _ _ (Nat.ne_of_lt l7.1)).trans r7
              refine hK.out _ _ trivial (fun _ => ?_)
              clear hK K
              refine wpAnyH_ready (rs := [8]) (by kernel_rfl) (by simp) ?_
              refine .cons rfl (fun K hK => ?_) .nil
              obtain ⟨g6, N6, cp6, Y6, hrun6, rY6, fY6, F6⟩ := D.push (W := w7.alloc (.cells (⟨23, ⟨#[]⟩, 0, false, some ⟨w5.heap.size, 0, none⟩, 1, 1, (x9.p : Int)⟩ : Nc).cells 31)) bl gl s7 nf7 (by have := D.len; omega) rfl
              clear s5 nd5 s7 nf7
              go_simp
              refine hK.out _ _ trivial (fun _ => ?_)
              clear hK K
              refine wpAnyH_ready (rs := [9]) (by kernel_rfl) (by simp) ?_
              refine .cons rfl (fun K hK => ?_) .nil
              go_simp
              refine hK.out _ _ trivial (fun _ => ?_)
              clear hK K
              refine wpAnyH_ready (rs := [10]) (by kernel_rfl) (by simp) ?_
              refine .cons rfl (fun K hK => ?_) .nil
              have cY := rowAt_cell rY6
              go_simp
              refine hK.out _ _ trivial (fun _ => ?_)
              clear hK K
              refine wpAnyH_done (by kernel_rfl) ?_ _
              go_wp2_with fail
              go_meet
              exact ⟨_, i5, _, _, _, F6.out, by omega, by rw [← HR9.out, hy5, Rs.bind_ok, ht5]⟩
            · go_simp
              have r8 : rowAt (w7.alloc (.cells (⟨23, ⟨#[]⟩, 0, false, some ⟨w5.heap.size, 0, none⟩, 1, 1, (x9.p : Int)⟩ : Nc).cells 31)) _ = _ := (rowAt_old _ _ _ (Nat.ne_of_lt l7.1)).trans r7
              refine hK.out _ _ trivial (fun _ => ?_)
              clear hK K
              refine wpAnyH_ready (rs := [1]) (by kernel_rfl) (by simp) ?_
              refine .cons rfl (fun K hK => ?_) .nil
              have cL := rowAt_cell r8
              go_simp
              refine hK.out _ _ trivial (fun _ => ?_)
              clear hK K
              refine wpAnyH_ready (rs := [8]) (by kernel_rfl) (by simp) ?_
              refine .cons rfl (fun K hK => ?_) .nil
              obtain ⟨g6, N6, cp6, Y6, hrun6, rY6, fY6, F6⟩ := D.push (W := w7.alloc (.cells (⟨23, ⟨#[]⟩, 0, false, some ⟨w5.heap.size, 0, none⟩, 1, 1, (x9.p : Int)⟩ : Nc).cells 31)) bl gl s7 nf7 (by have := D.len; omega) rfl
              clear s5 nd5 s7 nf7
              go_simp
              refine hK.out _ _ trivial (fun _ => ?_)
              clear hK K
              refine wpAnyH_ready (rs := [9]) (by kernel_rfl) (by simp) ?_
              refine .cons rfl (fun K hK => ?_) .nil
              go_simp
              refine hK.out _ _ trivial (fun _ => ?_)
              clear hK K
              refine wpAnyH_ready (rs := [10]) (by kernel_rfl) (by simp) ?_
              refine .cons rfl (fun K hK => ?_) .nil
              have cY := rowAt_cell rY6
              go_simp
              refine hK.out _ _ trivial (fun _ => ?_)
              clear hK K
              refine wpAnyH_done (by kernel_rfl) ?_ _
              go_wp2_with fail
              go_meet
              exact ⟨_, i5, _, _, _, F6.out, by omega, by rw [← HR9.out, hy5, Rs.bind_ok, ht5]⟩
    · have d9 : decide (wd (L.drop j8) = [82, 69, 84, 85, 82, 78]) = false := by simpa using hw
      have A10 : Hid (FN w w9 b g cap L j8 o w.heap.size w2.heap.size (w2.heap.size + 1) 6 z fl x1.p a8 N8 m8 l8 ∧ i < j8 ∧ pr5 z fl x1.p l8 (L.drop j8) = R) := ⟨A9.out.1, i38, by rw [← A9.out.2.2]; unfold pr4; rw [if_neg hw]⟩
      clear hw
      rw [d9]
      go_wp2_with fail
      go_meet
      exact ⟨_, _, _, _, _, A10⟩
  case rest =>
  obtain ⟨l10, j10, a10, N10, m10, A10⟩ := hcut
  clear A9
  have r10 := A10.out.1.row
  have c10 := rowAt_cell r10
  go_wp2_with (go_at_call 42; refine (ending_any _ b g cap L j10 o A10.out.1.st.rd z).mono ?_; intro e w11 hP; rcases postU_or hP with ⟨x11, t11, i11, hy11, rfl, ht11, hi11, s11⟩ | ⟨p11, er11, hy11, he, g11⟩ <;> first
    | (have hs11 := s11.size; have A11 : FN w w11 b g cap L i11 o w.heap.size w2.heap.size (w2.heap.size + 1) 6 z fl x1.p a10 N10 m10 l10 := A10.out.1.step bl s11 (by omega); have r11 := A11.row; have m11 := A11.res; have H11 : Hid (FN w w11 b g cap L i11 o w.heap.size w2.heap.size (w2.heap.size + 1) 6 z fl x1.p a10 N10 m10 l10 ∧ i < i11 ∧ Rs.ok (Nd.mk 6 z 0 fl l10 x1.p) (L.drop i11) = R) := ⟨A11, (by have := A10.out.2.1; omega), by rw [← A10.out.2.2]; unfold pr5; rw [hy11, Rs.bind_ok, ht11]⟩; clear A11 hP hy11 ht11 s11 r10 c10)
    | (unfold gaveUp at he; subst he; have G : Hid (R = .bad p11 er11 ∧ w.grownBy w11 (some b)) := ⟨by rw [← A10.out.2.2]; unfold pr5; rw [hy11, Rs.bind_bad], gb_trans A10.out.1.st.gb g11⟩; clear hP hy11))
  all_goals first
    | (rw [G.out.1]; exact ⟨rfl, rfl, G.out.2⟩)
    | (rw [← H11.out.2.2]; exact ret_cell1 rfl rfl (loadNd_row (rowNd_put _ _ _ m11)) rfl (H11.out.1.fin bl gl H11.out.2.1))
end Go.Proofs.YtllhcjmabhempaaDoor

namespace Go.Proofs.YtllhcjmabhempaaDoor
set_option linter.unusedVariables false
set_option linter.unusedSimpArgs false
open Go.ChangeShapes Go.WideShapes Go.ChangeAt Go.RowKit


attribute [local go_sem] fieldTk0 fieldTk1 fieldTk3 hmf
attribute [local go_sem ↓] bslNd_seal
attribute [local go_sem] bslNd1_run bslNd2_run
attribute [local go_sem ↓] appN_seal
def mo7 (z : Bs) (p : Nat) (l : List Nd) (r : List Tok) : Rs Nd := (endR z r).bind fun _ r => (mustR [46] r).bind fun _ s => .ok (.mk 1 z 0 false l p) s
def mo6 (z : Bs) (p : Nat) (l : List Nd) (r : List Tok) : Rs Nd := if wd r = [66, 69, 71, 73, 78] then (blockR 0 r.tail).bind fun y s => mo7 z p (l ++ [y]) s else mo7 z p l r
def mo5 (z : Bs) (p : Nat) (l : List Nd) (r : List Tok) : Rs Nd := (procsR (r.length + 1) l r).bind fun l4 r => mo6 z p l4.kids r
def mo4 (z : Bs) (p : Nat) (l : List Nd) (r : List Tok) : Rs Nd := (sectR [86, 65, 82] (varsR 0) r).bind fun l3 r => mo5 z p (l ++ l3.kids) r
def mo3 (z : Bs) (p : Nat) (l : List Nd) (r : List Tok) : Rs Nd := (sectR [84, 89, 80, 69] (tnameR 0) r).bind fun l2 r => mo4 z p (l ++ l2.kids) r
def mo2 (z : Bs) (p : Nat) (l : List Nd) (r : List Tok) : Rs Nd := (sectR [67, 79, 78, 83, 84] (constR 0) r).bind fun l1 r => mo3 z p (l ++ l1.kids) r
def mo1 (z : Bs) (p : Nat) (r : List Tok) : Rs Nd := if wd r = [73, 77, 80, 79, 82, 84] then (rowR [44] (namedR 2) (r.length + 1) [] r.tail).bind fun l s => (mustR [59] s).bind fun _ u => mo2 z p l.kids u else mo2 z p [] r
theorem module_eq (t : List Tok) : moduleR t = (mustR [77, 79, 68, 85, 76, 69] t).bind fun x r => (nameR r).bind fun z r => (mustR [59] r).bind fun _ r => mo1 z.t x.p r := by
  unfold moduleR
  congr 1; funext x r; congr 1; funext z r; congr 1; funext _ r
  have key : ∀ (l : Nd) (r : List Tok), ((sectR [67, 79, 78, 83, 84] (constR 0) r).bind fun l1 r => (sectR [84, 89, 80, 69] (tnameR 0) r).bind fun l2 r => (sectR [86, 65, 82] (varsR 0) r).bind fun l3 r => (procsR (r.length + 1) (l.kids ++ l1.kids ++ l2.kids ++ l3.kids) r).bind fun l4 r => (bodyR 0 l4.kids r).bind fun l5 r => (endR z.t r).bind fun _ r => (mustR [46] r).bind fun _ s => Rs.ok (Nd.mk 1 z.t 0 false l5.kids x.p) s) = mo2 z.t x.p l.kids r := by
    intro l r
    unfold mo2; congr 1; funext l1 r; unfold mo3; congr 1; funext l2 r; unfold mo4; congr 1; funext l3 r; unfold mo5; congr 1; funext l4 r
    unfold bodyR mo6
    split
    · rw [Rs.assoc]; rfl
    · rw [Rs.bind_ok]; rfl
  unfold mo1
  split
  · rw [Rs.assoc]; congr 1; funext l s
    rw [Rs.assoc]; congr 1; funext _ u
    rw [Rs.bind_ok]; exact key l u
  · rw [Rs.bind_ok]; exact key (lst []) r
theorem cell_lt {X : World} {x : Nat} {v : Value} (h : X.cell? ⟨x, 0, none⟩ = some v) : x < X.heap.size := by
  rcases Nat.lt_or_ge x X.heap.size with h1 | h1
  · exact h1
  · simp [World.cell?, Array.getElem?_eq_none h1] at h
theorem box_gb {X Y : World} {bx : Nat} {v : Value} {ob : Option Nat} (h : X.cell? ⟨bx, 0, none⟩ = some v) (hg : X.grownBy Y ob) (hne : some bx ≠ ob) : Y.cell? ⟨bx, 0, none⟩ = some v := by
  have := hg.block bx (cell_lt h) hne
  unfold World.cell? at h ⊢
  simp only [] at h ⊢
  rwa [this]
theorem box_below {X Y : World} {bx : Nat} {v : Value} (h : X.cell? ⟨bx, 0, none⟩ = some v) (hb : Below X.heap.size X Y) : Y.cell? ⟨bx, 0, none⟩ = some v := box_gb h (gb_of_below hb (bx + 1)) (by simp)
theorem box_drew {X : World} {bx : Nat} {v : Value} (h : X.cell? ⟨bx, 0, none⟩ = some v) : X.drew.cell? ⟨bx, 0, none⟩ = some v := h
theorem box_alloc {X : World} {bx : Nat} {v : Value} (x : Obj) (h : X.cell? ⟨bx, 0, none⟩ = some v) : (X.alloc x).cell? ⟨bx, 0, none⟩ = some v := box_below h ((Below.refl _ _).alloc (Nat.le_refl _) _)
theorem box_set {X : World} {bx q j : Nat} {u v : Value} (h : X.cell? ⟨bx, 0, none⟩ = some u) (hq : bx ≠ q) : (X.setCell ⟨q, j, none⟩ v).cell? ⟨bx, 0, none⟩ = some u :=
  box_gb h (gb_set (gb_of_below (Below.refl _ _) q)) (fun e => hq (by injection e))
theorem box_new (w : World) (v : Value) (t : TypeId) (o : Obj) : ((w.alloc (.cells #[v] t)).alloc o).cell? ⟨w.heap.size, 0, none⟩ = some v := by
  refine box_alloc o ?_
  have : rowAt (w.alloc (.cells #[v] t)) w.heap.size = some #[v] := rowAt_at _ _ _ _ _ rfl
  exact rowAt_cell this 0
theorem box_app {w X X5 Y : World} {b g cap : Nat} {L : List Tok} {j j5 o r q B bx : Nat} {k : Int} {t : Bs} {fl : Bool} {p : Nat} {a : Option Addr} {N m : Nat} {l : List Nd} {c5 : Nc} {v u : Value} (h : FN w X b g cap L j o r q B k t fl p a N m l) (bl : b < w.heap.size) (s5 : St X X5 b g cap L j5 o) (hrun : (appN #[29, 29] 29 #[.slice a N m, .slice (some ⟨X5.heap.size, 0, none⟩) 1 1]).run Tryd.prog (X5.alloc (.cells c5.cells 31)) = .ok v Y) (hx : (X5.alloc (.cells c5.cells 31)).cell? ⟨bx, 0, none⟩ = some u) (hb : bx < B) : Y.cell? ⟨bx, 0, none⟩ = some u := by
  obtain ⟨i0, hi0, hz0, hz1, hz2⟩ := info_parts infoNd
  obtain ⟨cs, R⟩ := h.rws
  have hqB := h.qB
  have hBX := h.BX
  have hs5 := s5.size
  have hhq := h.hq
  have hle := h.len
  have hll := h.st.rd.ll
  have hjl := h.st.rd.il
  have hcl : cs.length = l.length := R.len
  have R5 : Rw (X5.alloc (.cells c5.cells 31)) B (.slice a N m) l cs := (R.step (b := b) (by omega) s5.gb).step (b := b) (by omega) (gb_of_below (by go_grown) b)
  obtain ⟨v6, w6, hrun6, hown6, hgrow6, _⟩ := run_append_own (P := Tryd.prog) (w := X5.alloc (.cells c5.cells 31)) B 29 29 31 i0 _ 6 72 Tryd.underlying29 hi0 hz0 hz1 hz2 rfl (by decide) (.slice a N m) cs.length _ R5.own ⟨X5.heap.size, 0, none⟩ 1 1 c5.cells.toList rfl (nd_cells _ _) (nd_one _) (by unfold maxLen; omega) (by omega) (by simp; omega)
  have e : Result.ok v6 w6 = Result.ok v Y := hrun6.symm.trans hrun
  injection e with _ e2
  rw [← e2]
  exact box_gb hx hgrow6 (fun e => by have := (own_lt' R5.own e.symm).2; omega)
set_option maxHeartbeats 1000000 in
set_option maxRecDepth 20000 in
theorem named_is (w : World) (b g cap : Nat) (L : List Tok) (i o : Nat) (h : RdAt w b g cap L i o) (hk : (hd (L.drop i)).k = 1) (k : Int) :
    Calls Tryd.prog 31 #[.pointer (some ⟨b, 0, none⟩), .int .i64 k] w fun e w' => e = .returned (.agg (⟨k, bs (hd (L.drop i)).t, 0, false, none, 0, 0, ((hd (L.drop i)).p : Int)⟩ : Nc).cells) ∧ St w w' b g cap L (i + 1) o := by
  have PA : Hid (∀ X, RdAt X b g cap L i o → Calls Tryd.prog 53 #[.pointer (some ⟨b, 0, none⟩)] X _) := fun X hX => name_yes X b g cap L i o hX hk
  have H : Hid (RdAt w b g cap L i o) := h
  have bl := h.bl
  have gl := h.gl
  clear h hk
  generalize hd (L.drop i) = tk at PA ⊢
  go_enter Tryd.func31, Tryd.ntmps31
  go_wp2_with (go_at_call 53; refine (PA.out _ (H.out.alloc _)).mono ?_; rintro e w2 ⟨rfl, s2⟩; have S2 : Hid (St w w2 b g cap L (i + 1) o) := ((St.refl H.out).alloc _).next s2; have hs2 := s2.size; simp at hs2; have hl2 : w.heap.size < w2.heap.size := (by omega); have m4 : roomAt w2 w.heap.size 6 = true := (s2.room (by simp) (by omega) 6).trans (roomNd_new _ _ _ _ (by simp)))
  exact ret_cell1 rfl rfl (loadNd_row ((rowAt_old _ _ _ (by rw [size_put]; omega)).trans (rowNd_put _ _ _ m4))) rfl ⟨rfl, (S2.out.old bl gl _ (Nat.le_refl _) _).alloc _⟩
end Go.Proofs.YtllhcjmabhempaaDoor

namespace Go.Proofs.YtllhcjmabhempaaDoor
set_option linter.unusedVariables false
set_option linter.unusedSimpArgs false
open Go.ChangeShapes Go.WideShapes Go.ChangeAt Go.RowKit


attribute [local go_sem] fieldTk0 fieldTk1 fieldTk3 hmf
attribute [local go_sem ↓] bslNd_seal
attribute [local go_sem] bslNd1_run bslNd2_run
attribute [local go_sem ↓] appN_seal
set_option maxHeartbeats 8000000 in
set_option maxRecDepth 20000 in
theorem module_any (w : World) (b g cap : Nat) (L : List Tok) (i : Nat) (h : RdAt w b g cap L i 0) : Calls Tryd.prog 15 #[.pointer (some ⟨b, 0, none⟩)] w (PostN w b g cap L i 0 (moduleR (L.drop i))) := by
  have bl := h.bl
  have gl := h.gl
  have hil := h.il
  have H : Hid (RdAt w b g cap L i 0) := h
  have hbx : w.heap.size ≠ b := by omega
  have SC : Hid (∀ X j, RdAt X b g cap L j 0 → Calls Tryd.prog 35 #[.pointer (some ⟨b, 0, none⟩), .string (bs [67, 79, 78, 83, 84]), .func (.func 36) #[.pointer (some ⟨b, 0, none⟩)] #[]] X (PostK X b g cap L j 0 (sectR [67, 79, 78, 83, 84] (constR 0) (L.drop j)))) := fun X j hX => section_constant (constR 0) _ (by decide) X b g cap L j 0 hX (fun Y j2 _ hY => constant_any Y b g cap L j2 0 hY)
  have ST : Hid (∀ X j, RdAt X b g cap L j 0 → Calls Tryd.prog 35 #[.pointer (some ⟨b, 0, none⟩), .string (bs [84, 89, 80, 69]), .func (.func 37) #[.pointer (some ⟨b, 0, none⟩)] #[]] X (PostK X b g cap L j 0 (sectR [84, 89, 80, 69] (tnameR 0) (L.drop j)))) := fun X j hX => section_typeNamed (tnameR 0) _ (by decide) X b g cap L j 0 hX (fun Y j2 _ hY => typeNamed_any Y b g cap L j2 0 hY)
  have SV : Hid (∀ X j, RdAt X b g cap L j 0 → Calls Tryd.prog 35 #[.pointer (some ⟨b, 0, none⟩), .string (bs [86, 65, 82]), .func (.func 38) #[.pointer (some ⟨b, 0, none⟩)] #[]] X (PostK X b g cap L j 0 (sectR [86, 65, 82] (varsR 0) (L.drop j)))) := fun X j hX => section_variables (varsR 0) _ (by decide) X b g cap L j 0 hX (fun Y j2 _ hY => variables_any Y b g cap L j2 0 hY)
  have RO : Hid (∀ X j, X.cell? ⟨w.heap.size, 0, none⟩ = some (.pointer (some ⟨b, 0, none⟩)) → RdAt X b g cap L j 0 → ∀ n, L.length ≤ j + n → Calls Tryd.prog 33 #[.pointer (some ⟨b, 0, none⟩), .string (bs [44]), .func (.func 34) #[] #[.pointer (some ⟨w.heap.size, 0, none⟩)]] X (PostL X b g cap L j 0 (rowR [44] (namedR 2) (n + 1) [] (L.drop j)))) := fun X j hB hX n hn =>
    row_imports (namedR 2) n X b g cap L j 0 w.heap.size [44] (by decide) hX hn (fun Y j2 hj2 hY => import_any Y b g cap L j2 0 w.heap.size hY.rd (box_gb hB hY.gb (fun e => hbx (by injection e))) (cell_lt (box_gb hB hY.gb (fun e => hbx (by injection e)))))
  rw [module_eq]
  generalize hR : ((mustR [77, 79, 68, 85, 76, 69] (L.drop i)).bind fun x r => (nameR r).bind fun z r => (mustR [59] r).bind fun _ r => mo1 z.t x.p r) = R
  have HR : Hid (((mustR [77, 79, 68, 85, 76, 69] (L.drop i)).bind fun x r => (nameR r).bind fun z r => (mustR [59] r).bind fun _ r => mo1 z.t x.p r) = R) := hR
  clear h hR
  go_enter Tryd.func15, Tryd.ntmps15
  go_upto_if 15 with (first
    | (go_at_call 30; have hx := HR; clear hx; refine (must_any _ b g cap L i 0 ((H.out.alloc _).alloc _) _ (by decide)).mono ?_; intro e w1 hP; rcases postT_or hP with ⟨x1, u1, hm1, rfl, ht1, s1⟩ | ⟨p1, er1, hm1, he, g1⟩ <;> first
        | (have hs1 := s1.size; simp at hs1; have e1 : x1.tk.p = (x1.p : Int) := rfl; have B1 : Hid (St w w1 b g cap L (i + 1) 0) := (((St.refl H.out).alloc _).alloc _).next s1; have m1 : roomAt w1 (w.heap.size + 1) 6 = true := (s1.room (by simp) (by omega) 6).trans (roomNd_new _ _ _ _ (by simp)); have b1 : w1.cell? ⟨w.heap.size, 0, none⟩ = some (.pointer (some ⟨b, 0, none⟩)) := box_gb (box_new _ _ _ _) s1.gb (fun e => hbx (by injection e)); have HR1 : Hid (((nameR (L.drop (i + 1))).bind fun z r => (mustR [59] r).bind fun _ r => mo1 z.t x1.p r) = R) := (by show _ = _; rw [← HR.out, hm1, Rs.bind_ok, ht1]); clear hP hm1 ht1 s1 HR)
        | (unfold gaveUp at he; subst he; have G : Hid (R = .bad p1 er1 ∧ w.grownBy w1 (some b)) := ⟨by rw [← HR.out, hm1, Rs.bind_bad], gb_trans (((St.refl H.out).alloc _).alloc _).gb g1⟩; clear hP hm1))
    | (go_at_call 31; by_cases hk2 : (hd (L.drop (i + 1))).k = 1 <;> first
        | (refine (named_is _ b g cap L (i + 1) 0 B1.out.rd hk2 1).mono ?_; rintro e w2 ⟨rfl, s2⟩; have hs2 := s2.size; obtain ⟨z2, hz2⟩ : ∃ z2, z2 = hd (L.drop (i + 1)) := ⟨_, rfl⟩; rw [← hz2]; have b2 : w2.cell? ⟨w.heap.size, 0, none⟩ = some (.pointer (some ⟨b, 0, none⟩)) := box_gb b1 s2.gb (fun e => hbx (by injection e)); have q2 : roomAt w2 (w.heap.size + 1) 6 = true := (s2.room (by omega) (by omega) 6).trans m1; have A2 : Hid (FN w (w2.alloc (.cells (⟨1, bs z2.t, 0, false, none, 0, 0, (x1.p : Int)⟩ : Nc).cells 31)) b g cap L (i + 1 + 1) 0 (w.heap.size + 1) w2.heap.size (w2.heap.size + 1) 1 z2.t false x1.p none 0 0 []) := FN.new (B1.out.next s2) q2 (by omega) (by omega) rfl; have HR2 : Hid (((mustR [59] (L.drop (i + 1 + 1))).bind fun _ r => mo1 z2.t x1.p r) = R) := (by show _ = _; rw [← HR1.out]; unfold nameR; rw [if_pos hk2, Rs.bind_ok, List.tail_drop, hz2]); have b2n : w.heap.size ≠ w2.heap.size := (by omega); have b2l : w.heap.size < w2.heap.size := (by omega); clear hk2 hz2 s2)
        | (refine (named_no _ b g cap L (i + 1) 0 B1.out.rd hk2 1).mono ?_; rintro e w2 ⟨he, g2⟩; unfold gaveUp at he; subst he; have G : Hid (R = .bad (hd (L.drop (i + 1))).p 90 ∧ w.grownBy w2 (some b)) := ⟨by rw [← HR1.out]; unfold nameR; rw [if_neg hk2, Rs.bind_bad], gb_trans B1.out.gb g2⟩; clear hk2))
    | (go_at_call 30; have hx := HR2; clear hx; refine (must_any _ b g cap L (i + 1 + 1) 0 A2.out.st.rd [59] (by decide)).mono ?_; intro e w4 hP; rcases postT_or hP with ⟨x4, u4, hm4, rfl, ht4, s4⟩ | ⟨p4, er4, hm4, he, g4⟩ <;> first
        | (have hs4 := s4.size; simp at hs4; have b4 : w4.cell? ⟨w.heap.size, 0, none⟩ = some (.pointer (some ⟨b, 0, none⟩)) := box_gb (box_alloc _ b2) s4.gb (fun e => hbx (by injection e)); have A4 : Hid (FN w w4 b g cap L (i + 1 + 1 + 1) 0 (w.heap.size + 1) w2.heap.size (w2.heap.size + 1) 1 z2.t false x1.p none 0 0 [] ∧ mo1 z2.t x1.p (L.drop (i + 1 + 1 + 1)) = R) := ⟨A2.out.step bl s4 (by omega), by rw [← HR2.out, hm4, Rs.bind_ok, ht4]⟩; clear hP hm4 ht4 s4)
        | (unfold gaveUp at he; subst he; have G : Hid (R = .bad p4 er4 ∧ w.grownBy w4 (some b)) := ⟨by rw [← HR2.out, hm4, Rs.bind_bad], gb_trans A2.out.st.gb g4⟩; clear hP hm4))
    | (go_at_call 32; refine (found_any _ b g cap L (i + 1 + 1 + 1) 0 A4.out.1.st.rd [73, 77, 80, 79, 82, 84] (by decide)).mono ?_; rintro e w5 ⟨rfl, s5⟩; have hs5 := s5.size; have b5 : w5.cell? ⟨w.heap.size, 0, none⟩ = some (.pointer (some ⟨b, 0, none⟩)) := box_gb b4 s5.gb (fun e => hbx (by injection e)); have S5 : Hid (St w4 w5 b g cap L (if wd (L.drop (i + 1 + 1 + 1)) = [73, 77, 80, 79, 82, 84] then i + 1 + 1 + 1 + 1 else i + 1 + 1 + 1) 0) := s5; clear s5))
  rotate_left
  all_goals try (rw [G.out.1]; exact ⟨rfl, rfl, G.out.2⟩)
  clear A2 HR1 HR2 B1 m1 b1 b2 q2 b4
  have hqx : w.heap.size ≠ w2.heap.size := b2n
  go_cut [] (fun Y => ∃ l6 j6 a6 N6 m6, Hid (FN w Y b g cap L j6 0 (w.heap.size + 1) w2.heap.size (w2.heap.size + 1) 1 z2.t false x1.p a6 N6 m6 l6 ∧ Y.cell? ⟨w.heap.size, 0, none⟩ = some (.pointer (some ⟨b, 0, none⟩)) ∧ i < j6 ∧ mo2 z2.t x1.p l6 (L.drop j6) = R))
  case first =>
    by_cases hw : wd (L.drop (i + 1 + 1 + 1)) = [73, 77, 80, 79, 82, 84]
    · have d5 : decide (wd (L.drop (i + 1 + 1 + 1)) = [73, 77, 80, 79, 82, 84]) = true := by simpa using hw
      have A5 : Hid (FN w w5 b g cap L (i + 1 + 1 + 1 + 1) 0 (w.heap.size + 1) w2.heap.size (w2.heap.size + 1) 1 z2.t false x1.p none 0 0 [] ∧ ((rowR [44] (namedR 2) ((L.drop (i + 1 + 1 + 1)).length + 1) [] (L.drop (i + 1 + 1 + 1 + 1))).bind fun l s => (mustR [59] s).bind fun _ u => mo2 z2.t x1.p l.kids u) = R) := ⟨A4.out.1.step bl (by have := S5.out; rwa [if_pos hw] at this) (by omega), by rw [← A4.out.2]; unfold mo1; rw [if_pos hw, List.tail_drop]⟩
      clear hw S5
      rw [d5]
      go_wp2_with (first
        | (go_at_call 33; refine (RO.out _ (i + 1 + 1 + 1 + 1) b5 A5.out.1.st.rd (L.drop (i + 1 + 1 + 1)).length (by rw [List.length_drop]; omega)).mono ?_; intro e w7 hP; rcases postL_or hP with ⟨n7, t7, g7, m7, i7, cs7, N7, hl7, rfl, ht7, hi7, s7, ks7, hg7, hg8, R7, hl0, hlj, hN7⟩ | ⟨p7, er7, hl7, he, g7⟩ <;> first
            | (have hs7 := s7.size; have B7 : FN w w7 b g cap L i7 0 (w.heap.size + 1) w2.heap.size (w2.heap.size + 1) 1 z2.t false x1.p none 0 0 [] := A5.out.1.step bl s7 (by omega); have c7 := rowAt_cell B7.row; have f7 := B7.fz 4 (by omega); have e7 := hN7.out; have b7 : (w7.setCell ⟨w2.heap.size, 4, none⟩ (.slice (some ⟨g7, 0, none⟩) N7 m7)).cell? ⟨w.heap.size, 0, none⟩ = some (.pointer (some ⟨b, 0, none⟩)) := box_set (box_gb b5 s7.gb (fun e => hbx (by injection e))) hqx; have b7x := box_gb b5 s7.gb (fun e => hbx (by injection e)); have A7 : Hid (FN w (w7.setCell ⟨w2.heap.size, 4, none⟩ (.slice (some ⟨g7, 0, none⟩) N7 m7)) b g cap L i7 0 (w.heap.size + 1) w2.heap.size (w2.heap.size + 1) 1 z2.t false x1.p (some ⟨g7, 0, none⟩) N7 m7 n7.kids ∧ i < i7 ∧ ((mustR [59] (L.drop i7)).bind fun _ u => mo2 z2.t x1.p n7.kids u) = R) := ⟨(by rw [e7]; exact B7.kids bl gl (R7.mono (by have := A5.out.1.BX; omega)) hlj), (by omega), by rw [← A5.out.2, hl7, Rs.bind_ok, ht7]⟩; clear B7 R7 ks7 s7 hP hl7 ht7 hi7 hg7 hg8 hl0 hlj hN7 e7)
            | (unfold gaveUp at he; subst he; have G : Hid (R = .bad p7 er7 ∧ w.grownBy w7 (some b)) := ⟨by rw [← A5.out.2, hl7, Rs.bind_bad], gb_trans A5.out.1.st.gb g7⟩; clear hP hl7))
        | (go_at_call 30; refine (must_any _ b g cap L i7 0 A7.out.1.st.rd [59] (by decide)).mono ?_; intro e w8 hP; rcases postT_or hP with ⟨x8, u8, hm8, rfl, ht8, s8⟩ | ⟨p8, er8, hm8, he, g8⟩ <;> first
            | (have hs8 := s8.size; have b8 : w8.cell? ⟨w.heap.size, 0, none⟩ = some (.pointer (some ⟨b, 0, none⟩)) := box_gb b7 s8.gb (fun e => hbx (by injection e)); have A8 : Hid (FN w w8 b g cap L (i7 + 1) 0 (w.heap.size + 1) w2.heap.size (w2.heap.size + 1) 1 z2.t false x1.p (some ⟨g7, 0, none⟩) N7 m7 n7.kids ∧ w8.cell? ⟨w.heap.size, 0, none⟩ = some (.pointer (some ⟨b, 0, none⟩)) ∧ i < (i7 + 1) ∧ mo2 z2.t x1.p n7.kids (L.drop (i7 + 1)) = R) := ⟨A7.out.1.step bl s8 (by omega), b8, (by have := A7.out.2.1; omega), by rw [← A7.out.2.2, hm8, Rs.bind_ok, ht8]⟩; clear hP hm8 ht8 s8)
            | (unfold gaveUp at he; subst he; have G : Hid (R = .bad p8 er8 ∧ w.grownBy w8 (some b)) := ⟨by rw [← A7.out.2.2, hm8, Rs.bind_bad], gb_trans A7.out.1.st.gb g8⟩; clear hP hm8)))
      all_goals first
        | (rw [G.out.1]; exact ⟨rfl, rfl, G.out.2⟩)
        | (go_meet; exact ⟨_, _, _, _, _, A8⟩)
    · have d5 : decide (wd (L.drop (i + 1 + 1 + 1)) = [73, 77, 80, 79, 82, 84]) = false := by simpa using hw
      have A8 : Hid (FN w w5 b g cap L (i + 1 + 1 + 1) 0 (w.heap.size + 1) w2.heap.size (w2.heap.size + 1) 1 z2.t false x1.p none 0 0 [] ∧ w5.cell? ⟨w.heap.size, 0, none⟩ = some (.pointer (some ⟨b, 0, none⟩)) ∧ i < (i + 1 + 1 + 1) ∧ mo2 z2.t x1.p [] (L.drop (i + 1 + 1 + 1)) = R) := ⟨A4.out.1.step bl (by have := S5.out; rwa [if_neg hw] at this) (Nat.le_refl _), b5, by omega, by rw [← A4.out.2]; unfold mo1; rw [if_neg hw]⟩
      clear hw S5
      rw [d5]
      go_wp2_with fail
      go_meet
      exact ⟨_, _, _, _, _, A8⟩
  case rest =>
  obtain ⟨l6, j6, a6, N6, m6, A6⟩ := hcut
  clear A4 S5 b5 hs5 hs4
  have i3a := A6.out.2.2.1
  have h2a := A6.out.1.lt
  go_upto_region 8 with fail
  go_cut [] (fun Y => ∃ lb jb ab Nb mb, Hid (FN w Y b g cap L jb 0 (w.heap.size + 1) w2.heap.size (w2.heap.size + 1) 1 z2.t false x1.p ab Nb mb lb ∧ Y.cell? ⟨w.heap.size, 0, none⟩ = some (.pointer (some ⟨b, 0, none⟩)) ∧ i < jb ∧ mo3 z2.t x1.p lb (L.drop jb) = R))
  case first =>
    have D := (A6.out.1).drew bl
    have rD := D.row
    have lD := D.lt
    refine wp_region_held_drew (S := (fun X => X.cell? ⟨w.heap.size, 0, none⟩ = some (.pointer (some ⟨b, 0, none⟩)))) (by kernel_rfl) (box_drew A6.out.2.1) (fun hHeld => ?_)
    refine wpAnyH_take (i := 0) (v := ?_) rfl (by kernel_rfl) (by kernel_rfl) (by kernel_rfl) (fun _ _ _ h => h) (Or.inl ⟨by rfl, ?y0a⟩) hHeld ?r0a
    case y0a => (intro w2 hSw; (try dsimp only at hSw); go_simp; try rfl)
    simp only [Act.put, List.setIfInBounds_toArray, List.set_cons_zero, List.set_cons_succ]
    refine wpAnyH_take (i := 2) (v := ?_) rfl (by kernel_rfl) (by kernel_rfl) (by kernel_rfl) (fun _ _ _ h => h) (Or.inl ⟨by rfl, ?y2a⟩) hHeld ?r2a
    case y2a => (intro w2 hSw; (try dsimp only at hSw); go_simp; try rfl)
    simp only [Act.put, List.setIfInBounds_toArray, List.set_cons_zero, List.set_cons_succ]
    refine wpAnyH_take (i := 3) (v := ?_) rfl (by kernel_rfl) (by kernel_rfl) (by kernel_rfl) (fun _ _ _ h => h) (Or.inl ⟨by rfl, ?y3a⟩) hHeld ?r3a
    case y3a => (intro w2 hSw; (try dsimp only at hSw); go_simp; try rfl)
    simp only [Act.put, List.setIfInBounds_toArray, List.set_cons_zero, List.set_cons_succ]
    refine wpAnyH_take (i := 4) (v := ?_) rfl (by kernel_rfl) (by kernel_rfl) (by kernel_rfl) (fun _ _ _ h => h) (Or.inl ⟨by rfl, ?y4a⟩) hHeld ?r4a
    case y4a => (intro w2 hSw; (try dsimp only at hSw); go_simp; try rfl)
    simp only [Act.put, List.setIfInBounds_toArray, List.set_cons_zero, List.set_cons_succ]
    refine wpAnyH_ready (rs := [1, 5]) (by kernel_rfl) (by simp) ?_
    refine .cons rfl (fun K hK => ?_) (.cons rfl (fun K hK => ?_) .nil)
    · have cL := rowAt_cell rD
      go_simp
      refine hK.out _ _ hHeld (fun _ => ?_)
      clear hK K
      refine wpAnyH_ready (rs := [5]) (by kernel_rfl) (by simp) ?_
      refine .cons rfl (fun K hK => ?_) .nil
      go_simp
      go_wp2_with (go_at_call 35; refine (SC.out _ j6 D.st.rd).mono ?_; intro e w5 hP; rcases postK_or hP with ⟨n5, t5, a5, N5, m5, i5, cs5, hy5, rfl, ht5, hi5, s5, R5, hl5⟩ | ⟨p5, er5, hy5, he, g5⟩ <;> first | (have hs5 := s5.size; clear hP) | (unfold gaveUp at he; subst he))
      rotate_left
      · rw [← A6.out.2.2.2]; unfold mo2; rw [hy5, Rs.bind_bad]; exact ⟨rfl, rfl, gb_trans D.st.gb g5⟩
      have r5 := (D.step bl s5 (by omega)).row
      have hB5 := box_gb hHeld s5.gb (fun e => hbx (by injection e))
      refine hK.out _ _ hB5 (fun _ => ?_)
      clear hK K
      refine wpAnyH_ready (rs := [6]) (by kernel_rfl) (by simp) ?_
      refine .cons rfl (fun K hK => ?_) .nil
      obtain ⟨a6, N6, m6, Y6, hrun6, rY6, fY6, F6, V6⟩ := D.pushes bl gl s5 R5 (by omega)
      clear s5 R5
      have hB6 := box_gb hB5 V6.2.out (V6.1.out _ (by omega))
      go_simp
      refine hK.out _ _ hB6 (fun _ => ?_)
      clear hK K
      refine wpAnyH_ready (rs := [7]) (by kernel_rfl) (by simp) ?_
      refine .cons rfl (fun K hK => ?_) .nil
      go_simp
      refine hK.out _ _ hB6 (fun _ => ?_)
      clear hK K
      refine wpAnyH_ready (rs := [8]) (by kernel_rfl) (by simp) ?_
      refine .cons rfl (fun K hK => ?_) .nil
      have cY := rowAt_cell rY6
      have hB8 := box_set (v := .slice a6 N6 m6) (j := 4) hB6 hqx
      go_simp
      refine hK.out _ _ hB8 (fun _ => ?_)
      clear hK K
      refine wpAnyH_done (by kernel_rfl) ?_ _
      go_wp2_with fail
      go_meet
      exact ⟨_, i5, _, _, _, F6.out, hB8, by omega, by rw [← A6.out.2.2.2]; unfold mo2; rw [hy5, Rs.bind_ok, ht5]⟩
    · go_simp
      go_wp2_with (go_at_call 35; refine (SC.out _ j6 D.st.rd).mono ?_; intro e w5 hP; rcases postK_or hP with ⟨n5, t5, a5, N5, m5, i5, cs5, hy5, rfl, ht5, hi5, s5, R5, hl5⟩ | ⟨p5, er5, hy5, he, g5⟩ <;> first | (have hs5 := s5.size; clear hP) | (unfold gaveUp at he; subst he))
      rotate_left
      · rw [← A6.out.2.2.2]; unfold mo2; rw [hy5, Rs.bind_bad]; exact ⟨rfl, rfl, gb_trans D.st.gb g5⟩
      have r5 := (D.step bl s5 (by omega)).row
      have hB5 := box_gb hHeld s5.gb (fun e => hbx (by injection e))
      refine hK.out _ _ hB5 (fun _ => ?_)
      clear hK K
      refine wpAnyH_ready (rs := [1]) (by kernel_rfl) (by simp) ?_
      refine .cons rfl (fun K hK => ?_) .nil
      have cL := rowAt_cell r5
      go_simp
      refine hK.out _ _ hB5 (fun _ => ?_)
      clear hK K
      refine wpAnyH_ready (rs := [6]) (by kernel_rfl) (by simp) ?_
      refine .cons rfl (fun K hK => ?_) .nil
      obtain ⟨a6, N6, m6, Y6, hrun6, rY6, fY6, F6, V6⟩ := D.pushes bl gl s5 R5 (by omega)
      clear s5 R5
      have hB6 := box_gb hB5 V6.2.out (V6.1.out _ (by omega))
      go_simp
      refine hK.out _ _ hB6 (fun _ => ?_)
      clear hK K
      refine wpAnyH_ready (rs := [7]) (by kernel_rfl) (by simp) ?_
      refine .cons rfl (fun K hK => ?_) .nil
      go_simp
      refine hK.out _ _ hB6 (fun _ => ?_)
      clear hK K
      refine wpAnyH_ready (rs := [8]) (by kernel_rfl) (by simp) ?_
      refine .cons rfl (fun K hK => ?_) .nil
      have cY := rowAt_cell rY6
      have hB8 := box_set (v := .slice a6 N6 m6) (j := 4) hB6 hqx
      go_simp
      refine hK.out _ _ hB8 (fun _ => ?_)
      clear hK K
      refine wpAnyH_done (by kernel_rfl) ?_ _
      go_wp2_with fail
      go_meet
      exact ⟨_, i5, _, _, _, F6.out, hB8, by omega, by rw [← A6.out.2.2.2]; unfold mo2; rw [hy5, Rs.bind_ok, ht5]⟩
  case rest =>
  obtain ⟨lb, jb, ab, Nb, mb, Ab⟩ := hcut
  clear A6 i3a h2a
  have i3b := Ab.out.2.2.1
  have h2b := Ab.out.1.lt
  go_upto_region 9 with fail
  go_cut [] (fun Y => ∃ lc jc ac Nc1 mc, Hid (FN w Y b g cap L jc 0 (w.heap.size + 1) w2.heap.size (w2.heap.size + 1) 1 z2.t false x1.p ac Nc1 mc lc ∧ Y.cell? ⟨w.heap.size, 0, none⟩ = some (.pointer (some ⟨b, 0, none⟩)) ∧ i < jc ∧ mo4 z2.t x1.p lc (L.drop jc) = R))
  case first =>
    have D := (Ab.out.1).drew bl
    have rD := D.row
    have lD := D.lt
    refine wp_region_held_drew (S := (fun X => X.cell? ⟨w.heap.size, 0, none⟩ = some (.pointer (some ⟨b, 0, none⟩)))) (by kernel_rfl) (box_drew Ab.out.2.1) (fun hHeld => ?_)
    refine wpAnyH_take (i := 0) (v := ?_) rfl (by kernel_rfl) (by kernel_rfl) (by kernel_rfl) (fun _ _ _ h => h) (Or.inl ⟨by rfl, ?y0b⟩) hHeld ?r0b
    case y0b => (intro w2 hSw; (try dsimp only at hSw); go_simp; try rfl)
    simp only [Act.put, List.setIfInBounds_toArray, List.set_cons_zero, List.set_cons_succ]
    refine wpAnyH_take (i := 2) (v := ?_) rfl (by kernel_rfl) (by kernel_rfl) (by kernel_rfl) (fun _ _ _ h => h) (Or.inl ⟨by rfl, ?y2b⟩) hHeld ?r2b
    case y2b => (intro w2 hSw; (try dsimp only at hSw); go_simp; try rfl)
    simp only [Act.put, List.setIfInBounds_toArray, List.set_cons_zero, List.set_cons_succ]
    refine wpAnyH_take (i := 3) (v := ?_) rfl (by kernel_rfl) (by kernel_rfl) (by kernel_rfl) (fun _ _ _ h => h) (Or.inl ⟨by rfl, ?y3b⟩) hHeld ?r3b
    case y3b => (intro w2 hSw; (try dsimp only at hSw); go_simp; try rfl)
    simp only [Act.put, List.setIfInBounds_toArray, List.set_cons_zero, List.set_cons_succ]
    refine wpAnyH_take (i := 4) (v := ?_) rfl (by kernel_rfl) (by kernel_rfl) (by kernel_rfl) (fun _ _ _ h => h) (Or.inl ⟨by rfl, ?y4b⟩) hHeld ?r4b
    case y4b => (intro w2 hSw; (try dsimp only at hSw); go_simp; try rfl)
    simp only [Act.put, List.setIfInBounds_toArray, List.set_cons_zero, List.set_cons_succ]
    refine wpAnyH_ready (rs := [1, 5]) (by kernel_rfl) (by simp) ?_
    refine .cons rfl (fun K hK => ?_) (.cons rfl (fun K hK => ?_) .nil)
    · have cL := rowAt_cell rD
      go_simp
      refine hK.out _ _ hHeld (fun _ => ?_)
      clear hK K
      refine wpAnyH_ready (rs := [5]) (by kernel_rfl) (by simp) ?_
      refine .cons rfl (fun K hK => ?_) .nil
      go_simp
      go_wp2_with (go_at_call 35; refine (ST.out _ jb D.st.rd).mono ?_; intro e w5 hP; rcases postK_or hP with ⟨n5, t5, a5, N5, m5, i5, cs5, hy5, rfl, ht5, hi5, s5, R5, hl5⟩ | ⟨p5, er5, hy5, he, g5⟩ <;> first | (have hs5 := s5.size; clear hP) | (unfold gaveUp at he; subst he))
      rotate_left
      · rw [← Ab.out.2.2.2]; unfold mo3; rw [hy5, Rs.bind_bad]; exact ⟨rfl, rfl, gb_trans D.st.gb g5⟩
      have r5 := (D.step bl s5 (by omega)).row
      have hB5 := box_gb hHeld s5.gb (fun e => hbx (by injection e))
      refine hK.out _ _ hB5 (fun _ => ?_)
      clear hK K
      refine wpAnyH_ready (rs := [6]) (by kernel_rfl) (by simp) ?_
      refine .cons rfl (fun K hK => ?_) .nil
      obtain ⟨a6, N6, m6, Y6, hrun6, rY6, fY6, F6, V6⟩ := D.pushes bl gl s5 R5 (by omega)
      clear s5 R5
      have hB6 := box_gb hB5 V6.2.out (V6.1.out _ (by omega))
      go_simp
      refine hK.out _ _ hB6 (fun _ => ?_)
      clear hK K
      refine wpAnyH_ready (rs := [7]) (by kernel_rfl) (by simp) ?_
      refine .cons rfl (fun K hK => ?_) .nil
      go_simp
      refine hK.out _ _ hB6 (fun _ => ?_)
      clear hK K
      refine wpAnyH_ready (rs := [8]) (by kernel_rfl) (by simp) ?_
      refine .cons rfl (fun K hK => ?_) .nil
      have cY := rowAt_cell rY6
      have hB8 := box_set (v := .slice a6 N6 m6) (j := 4) hB6 hqx
      go_simp
      refine hK.out _ _ hB8 (fun _ => ?_)
      clear hK K
      refine wpAnyH_done (by kernel_rfl) ?_ _
      go_wp2_with fail
      go_meet
      exact ⟨_, i5, _, _, _, F6.out, hB8, by omega, by rw [← Ab.out.2.2.2]; unfold mo3; rw [hy5, Rs.bind_ok, ht5]⟩
    · go_simp
      go_wp2_with (go_at_call 35; refine (ST.out _ jb D.st.rd).mono ?_; intro e w5 hP; rcases postK_or hP with ⟨n5, t5, a5, N5, m5, i5, cs5, hy5, rfl, ht5, hi5, s5, R5, hl5⟩ | ⟨p5, er5, hy5, he, g5⟩ <;> first | (have hs5 := s5.size; clear hP) | (unfold gaveUp at he; subst he))
      rotate_left
      · rw [← Ab.out.2.2.2]; unfold mo3; rw [hy5, Rs.bind_bad]; exact ⟨rfl, rfl, gb_trans D.st.gb g5⟩
      have r5 := (D.step bl s5 (by omega)).row
      have hB5 := box_gb hHeld s5.gb (fun e => hbx (by injection e))
      refine hK.out _ _ hB5 (fun _ => ?_)
      clear hK K
      refine wpAnyH_ready (rs := [1]) (by kernel_rfl) (by simp) ?_
      refine .cons rfl (fun K hK => ?_) .nil
      have cL := rowAt_cell r5
      go_simp
      refine hK.out _ _ hB5 (fun _ => ?_)
      clear hK K
      refine wpAnyH_ready (rs := [6]) (by kernel_rfl) (by simp) ?_
      refine .cons rfl (fun K hK => ?_) .nil
      obtain ⟨a6, N6, m6, Y6, hrun6, rY6, fY6, F6, V6⟩ := D.pushes bl gl s5 R5 (by omega)
      clear s5 R5
      have hB6 := box_gb hB5 V6.2.out (V6.1.out _ (by omega))
      go_simp
      refine hK.out _ _ hB6 (fun _ => ?_)
      clear hK K
      refine wpAnyH_ready (rs := [7]) (by kernel_rfl) (by simp) ?_
      refine .cons rfl (fun K hK => ?_) .nil
      go_simp
      refine hK.out _ _ hB6 (fun _ => ?_)
      clear hK K
      refine wpAnyH_ready (rs := [8]) (by kernel_rfl) (by simp) ?_
      refine .cons rfl (fun K hK => ?_) .nil
      have cY := rowAt_cell rY6
      have hB8 := box_set (v := .slice a6 N6 m6) (j := 4) hB6 hqx
      go_simp
      refine hK.out _ _ hB8 (fun _ => ?_)
      clear hK K
      refine wpAnyH_done (by kernel_rfl) ?_ _
      go_wp2_with fail
      go_meet
      exact ⟨_, i5, _, _, _, F6.out, hB8, by omega, by rw [← Ab.out.2.2.2]; unfold mo3; rw [hy5, Rs.bind_ok, ht5]⟩
  case rest =>
  obtain ⟨lc, jc, ac, Nc1, mc, Ac⟩ := hcut
  clear Ab i3b h2b
  have i3c := Ac.out.2.2.1
  have h2c := Ac.out.1.lt
  go_upto_region 10 with fail
  go_cut [] (fun Y => ∃ ld jd ad Nd1 md, Hid (FN w Y b g cap L jd 0 (w.heap.size + 1) w2.heap.size (w2.heap.size + 1) 1 z2.t false x1.p ad Nd1 md ld ∧ Y.cell? ⟨w.heap.size, 0, none⟩ = some (.pointer (some ⟨b, 0, none⟩)) ∧ i < jd ∧ mo5 z2.t x1.p ld (L.drop jd) = R))
  case first =>
    have D := (Ac.out.1).drew bl
    have rD := D.row
    have lD := D.lt
    refine wp_region_held_drew (S := (fun X => X.cell? ⟨w.heap.size, 0, none⟩ = some (.pointer (some ⟨b, 0, none⟩)))) (by kernel_rfl) (box_drew Ac.out.2.1) (fun hHeld => ?_)
    refine wpAnyH_take (i := 0) (v := ?_) rfl (by kernel_rfl) (by kernel_rfl) (by kernel_rfl) (fun _ _ _ h => h) (Or.inl ⟨by rfl, ?y0c⟩) hHeld ?r0c
    case y0c => (intro w2 hSw; (try dsimp only at hSw); go_simp; try rfl)
    simp only [Act.put, List.setIfInBounds_toArray, List.set_cons_zero, List.set_cons_succ]
    refine wpAnyH_take (i := 2) (v := ?_) rfl (by kernel_rfl) (by kernel_rfl) (by kernel_rfl) (fun _ _ _ h => h) (Or.inl ⟨by rfl, ?y2c⟩) hHeld ?r2c
    case y2c => (intro w2 hSw; (try dsimp only at hSw); go_simp; try rfl)
    simp only [Act.put, List.setIfInBounds_toArray, List.set_cons_zero, List.set_cons_succ]
    refine wpAnyH_take (i := 3) (v := ?_) rfl (by kernel_rfl) (by kernel_rfl) (by kernel_rfl) (fun _ _ _ h => h) (Or.inl ⟨by rfl, ?y3c⟩) hHeld ?r3c
    case y3c => (intro w2 hSw; (try dsimp only at hSw); go_simp; try rfl)
    simp only [Act.put, List.setIfInBounds_toArray, List.set_cons_zero, List.set_cons_succ]
    refine wpAnyH_take (i := 4) (v := ?_) rfl (by kernel_rfl) (by kernel_rfl) (by kernel_rfl) (fun _ _ _ h => h) (Or.inl ⟨by rfl, ?y4c⟩) hHeld ?r4c
    case y4c => (intro w2 hSw; (try dsimp only at hSw); go_simp; try rfl)
    simp only [Act.put, List.setIfInBounds_toArray, List.set_cons_zero, List.set_cons_succ]
    refine wpAnyH_ready (rs := [1, 5]) (by kernel_rfl) (by simp) ?_
    refine .cons rfl (fun K hK => ?_) (.cons rfl (fun K hK => ?_) .nil)
    · have cL := rowAt_cell rD
      go_simp
      refine hK.out _ _ hHeld (fun _ => ?_)
      clear hK K
      refine wpAnyH_ready (rs := [5]) (by kernel_rfl) (by simp) ?_
      refine .cons rfl (fun K hK => ?_) .nil
      go_simp
      go_wp2_with (go_at_call 35; refine (SV.out _ jc D.st.rd).mono ?_; intro e w5 hP; rcases postK_or hP with ⟨n5, t5, a5, N5, m5, i5, cs5, hy5, rfl, ht5, hi5, s5, R5, hl5⟩ | ⟨p5, er5, hy5, he, g5⟩ <;> first | (have hs5 := s5.size; clear hP) | (unfold gaveUp at he; subst he))
      rotate_left
      · rw [← Ac.out.2.2.2]; unfold mo4; rw [hy5, Rs.bind_bad]; exact ⟨rfl, rfl, gb_trans D.st.gb g5⟩
      have r5 := (D.step bl s5 (by omega)).row
      have hB5 := box_gb hHeld s5.gb (fun e => hbx (by injection e))
      refine hK.out _ _ hB5 (fun _ => ?_)
      clear hK K
      refine wpAnyH_ready (rs := [6]) (by kernel_rfl) (by simp) ?_
      refine .cons rfl (fun K hK => ?_) .nil
      obtain ⟨a6, N6, m6, Y6, hrun6, rY6, fY6, F6, V6⟩ := D.pushes bl gl s5 R5 (by omega)
      clear s5 R5
      have hB6 := box_gb hB5 V6.2.out (V6.1.out _ (by omega))
      go_simp
      refine hK.out _ _ hB6 (fun _ => ?_)
      clear hK K
      refine wpAnyH_ready (rs := [7]) (by kernel_rfl) (by simp) ?_
      refine .cons rfl (fun K hK => ?_) .nil
      go_simp
      refine hK.out _ _ hB6 (fun _ => ?_)
      clear hK K
      refine wpAnyH_ready (rs := [8]) (by kernel_rfl) (by simp) ?_
      refine .cons rfl (fun K hK => ?_) .nil
      have cY := rowAt_cell rY6
      have hB8 := box_set (v := .slice a6 N6 m6) (j := 4) hB6 hqx
      go_simp
      refine hK.out _ _ hB8 (fun _ => ?_)
      clear hK K
      refine wpAnyH_done (by kernel_rfl) ?_ _
      go_wp2_with fail
      go_meet
      exact ⟨_, i5, _, _, _, F6.out, hB8, by omega, by rw [← Ac.out.2.2.2]; unfold mo4; rw [hy5, Rs.bind_ok, ht5]⟩
    · go_simp
      go_wp2_with (go_at_call 35; refine (SV.out _ jc D.st.rd).mono ?_; intro e w5 hP; rcases postK_or hP with ⟨n5, t5, a5, N5, m5, i5, cs5, hy5, rfl, ht5, hi5, s5, R5, hl5⟩ | ⟨p5, er5, hy5, he, g5⟩ <;> first | (have hs5 := s5.size; clear hP) | (unfold gaveUp at he; subst he))
      rotate_left
      · rw [← Ac.out.2.2.2]; unfold mo4; rw [hy5, Rs.bind_bad]; exact ⟨rfl, rfl, gb_trans D.st.gb g5⟩
      have r5 := (D.step bl s5 (by omega)).row
      have hB5 := box_gb hHeld s5.gb (fun e => hbx (by injection e))
      refine hK.out _ _ hB5 (fun _ => ?_)
      clear hK K
      refine wpAnyH_ready (rs := [1]) (by kernel_rfl) (by simp) ?_
      refine .cons rfl (fun K hK => ?_) .nil
      have cL := rowAt_cell r5
      go_simp
      refine hK.out _ _ hB5 (fun _ => ?_)
      clear hK K
      refine wpAnyH_ready (rs := [6]) (by kernel_rfl) (by simp) ?_
      refine .cons rfl (fun K hK => ?_) .nil
      obtain ⟨a6, N6, m6, Y6, hrun6, rY6, fY6, F6, V6⟩ := D.pushes bl gl s5 R5 (by omega)
      clear s5 R5
      have hB6 := box_gb hB5 V6.2.out (V6.1.out _ (by omega))
      go_simp
      refine hK.out _ _ hB6 (fun _ => ?_)
      clear hK K
      refine wpAnyH_ready (rs := [7]) (by kernel_rfl) (by simp) ?_
      refine .cons rfl (fun K hK => ?_) .nil
      go_simp
      refine hK.out _ _ hB6 (fun _ => ?_)
      clear hK K
      refine wpAnyH_ready (rs := [8]) (by kernel_rfl) (by simp) ?_
      refine .cons rfl (fun K hK => ?_) .nil
      have cY := rowAt_cell rY6
      have hB8 := box_set (v := .slice a6 N6 m6) (j := 4) hB6 hqx
      go_simp
      refine hK.out _ _ hB8 (fun _ => ?_)
      clear hK K
      refine wpAnyH_done (by kernel_rfl) ?_ _
      go_wp2_with fail
      go_meet
      exact ⟨_, i5, _, _, _, F6.out, hB8, by omega, by rw [← Ac.out.2.2.2]; unfold mo4; rw [hy5, Rs.bind_ok, ht5]⟩
  case rest =>
  obtain ⟨ld, jd, ad, Nd1, md, Ad⟩ := hcut
  clear Ac i3c h2c
  have HX : Hid (((procsR ((L.drop jd).length + 1) ld (L.drop jd)).bind fun l4 r => mo6 z2.t x1.p l4.kids r) = R) := by have := Ad.out.2.2.2; unfold mo5 at this; exact this
  go_wp2_with fail
  go_loopg [] L.length (fun gf X => ∃ j l a N m f1, FN w X b g cap L j 0 (w.heap.size + 1) w2.heap.size (w2.heap.size + 1) 1 z2.t false x1.p a N m l ∧ X.cell? ⟨w.heap.size, 0, none⟩ = some (.pointer (some ⟨b, 0, none⟩)) ∧ i < j ∧ ((procsR (f1 + 1) l (L.drop j)).bind fun l4 r => mo6 z2.t x1.p l4.kids r) = R ∧ L.length ≤ j + f1 ∧ L.length - j ≤ gf)
  case atStart => exact ⟨jd, ld, ad, Nd1, md, _, Ad.out.1, Ad.out.2.1, Ad.out.2.2.1, HX.out, by rw [List.length_drop]; omega, by omega⟩
  case round =>
    obtain ⟨j, l, a, N, m, f1, FJ, bJ, hij, hrun, hfu, hg⟩ := hrel
    have hjl := FJ.st.rd.il
    have hlt := FJ.lt
    have AJ : Hid (FN w wr b g cap L j 0 (w.heap.size + 1) w2.heap.size (w2.heap.size + 1) 1 z2.t false x1.p a N m l) := FJ
    rw [procsR] at hrun
    have HRj : Hid (((if wd (L.drop j) = [80, 82, 79, 67, 69, 68, 85, 82, 69] then (procR 0 (L.drop j)).bind fun x r => (mustR [59] r).bind fun _ u => procsR f1 (l ++ [x]) u else .ok (lst l) (L.drop j)).bind fun l4 r => mo6 z2.t x1.p l4.kids r) = R) := hrun
    clear FJ hrun Ad HX
    have kJ := rk (wd (L.drop j))
    by_cases hw : wd (L.drop j) = [80, 82, 79, 67, 69, 68, 85, 82, 69]
    · have dJ : decide (wd (L.drop j) = [80, 82, 79, 67, 69, 68, 85, 82, 69]) = true := by simpa using hw
      have HRk : Hid (((procR 0 (L.drop j)).bind fun x r => (mustR [59] r).bind fun _ u => (procsR f1 (l ++ [x]) u).bind fun l4 r => mo6 z2.t x1.p l4.kids r) = R) := by show _ = _; rw [← HRj.out, if_pos hw, Rs.assoc]; congr 1; funext x r; rw [Rs.assoc]
      clear hw HRj
      go_upto_region 12 with (go_at_call 39; refine (word_any _ b g cap L j 0 AJ.out.st.rd).mono ?_; rintro e w3 ⟨rfl, hb3⟩; have hs3 := hb3.size; have A3 : Hid (FN w w3 b g cap L j 0 (w.heap.size + 1) w2.heap.size (w2.heap.size + 1) 1 z2.t false x1.p a N m l ∧ l.length ≤ j) := ⟨AJ.out.below bl hb3, AJ.out.len⟩; have b3 : w3.cell? ⟨w.heap.size, 0, none⟩ = some (.pointer (some ⟨b, 0, none⟩)) := box_below bJ hb3; clear hb3)
      have h3l := A3.out.1.lt
      go_cut [] from 46 to 57 (fun Y => ∃ n9 j9 a9 N9 m9, Hid (FN w Y b g cap L j9 0 (w.heap.size + 1) w2.heap.size (w2.heap.size + 1) 1 z2.t false x1.p a9 N9 m9 (l ++ [n9]) ∧ Y.cell? ⟨w.heap.size, 0, none⟩ = some (.pointer (some ⟨b, 0, none⟩)) ∧ j < j9 ∧ ((mustR [59] (L.drop j9)).bind fun _ u => (procsR f1 (l ++ [n9]) u).bind fun l4 r => mo6 z2.t x1.p l4.kids r) = R))
      case first =>
        have D := (A3.out.1).drew bl
        have rD := D.row
        have lD := D.lt
        refine wp_region_held_drew (S := (fun X => X.cell? ⟨w.heap.size, 0, none⟩ = some (.pointer (some ⟨b, 0, none⟩)))) (by kernel_rfl) (box_drew b3) (fun hHeld => ?_)
        refine wpAnyH_take (i := 0) (v := ?_) rfl (by kernel_rfl) (by kernel_rfl) (by kernel_rfl) (fun _ _ _ h => h) (Or.inl ⟨by rfl, ?y0d⟩) hHeld ?r0d
        case y0d => (intro w2 hSw; (try dsimp only at hSw); go_simp; try rfl)
        simp only [Act.put, List.setIfInBounds_toArray, List.set_cons_zero, List.set_cons_succ]
        refine wpAnyH_take (i := 2) (v := ?_) rfl (by kernel_rfl) (by kernel_rfl) (by kernel_rfl) (fun _ _ _ h => h) (Or.inl ⟨by rfl, ?y2d⟩) hHeld ?r2d
        case y2d => (intro w2 hSw; (try dsimp only at hSw); go_simp; try rfl)
        simp only [Act.put, List.setIfInBounds_toArray, List.set_cons_zero, List.set_cons_succ]
        refine wpAnyH_ready (rs := [1, 3]) (by kernel_rfl) (by simp) ?_
        refine .cons rfl (fun K hK => ?_) (.cons rfl (fun K hK => ?_) .nil)
        · have cL := rowAt_cell rD
          go_simp
          refine hK.out _ _ hHeld (fun _ => ?_)
          clear hK K
          refine wpAnyH_ready (rs := [3]) (by kernel_rfl) (by simp) ?_
          refine .cons rfl (fun K hK => ?_) .nil
          go_simp
          go_wp2_with (go_at_call 40; refine (procedure_any _ b g cap L j 0 D.st.rd).mono ?_; intro e w5 hP; rcases postN_or hP with ⟨n5, t5, c5, i5, hy5, rfl, ht5, hi5, s5, nd5⟩ | ⟨p5, er5, hy5, he, g5⟩ <;> first | (have hs5 := s5.size; clear hP) | (unfold gaveUp at he; subst he))
          rotate_left
          · rw [← HRk.out, hy5, Rs.bind_bad]; exact ⟨rfl, rfl, gb_trans D.st.gb g5⟩
          have r5 := (D.step bl s5 (by omega)).row
          have hB5 := box_gb hHeld s5.gb (fun e => hbx (by injection e))
          refine hK.out _ _ hB5 (fun _ => ?_)
          clear hK K
          refine wpAnyH_ready (rs := [4]) (by kernel_rfl) (by simp) ?_
          refine .cons rfl (fun K hK => ?_) .nil
          go_simp
          have r6 : rowAt (w5.alloc (.cells c5.cells 31)) _ = _ := (rowAt_old _ _ _ (Nat.ne_of_lt (Nat.lt_of_lt_of_le lD.1 hs5))).trans r5
          have hB6 := box_alloc (.cells c5.cells 31) hB5
          refine hK.out _ _ hB6 (fun _ => ?_)
          clear hK K
          refine wpAnyH_ready (rs := [5]) (by kernel_rfl) (by simp) ?_
          refine .cons rfl (fun K hK => ?_) .nil
          obtain ⟨g6, N6, cp6, Y6, hrun6, rY6, fY6, F6⟩ := D.push (W := w5.alloc (.cells c5.cells 31)) bl gl s5 nd5 (by have := A3.out.2; omega) rfl
          have hB7 := box_app D bl s5 hrun6 hB6 (by omega)
          clear s5 nd5
          go_simp
          refine hK.out _ _ hB7 (fun _ => ?_)
          clear hK K
          refine wpAnyH_ready (rs := [6]) (by kernel_rfl) (by simp) ?_
          refine .cons rfl (fun K hK => ?_) .nil
          go_simp
          refine hK.out _ _ hB7 (fun _ => ?_)
          clear hK K
          refine wpAnyH_ready (rs := [7]) (by kernel_rfl) (by simp) ?_
          refine .cons rfl (fun K hK => ?_) .nil
          have cY := rowAt_cell rY6
          have hB8 := box_set (v := .slice (some ⟨g6, 0, none⟩) N6 cp6) (j := 4) hB7 hqx
          go_simp
          refine hK.out _ _ hB8 (fun _ => ?_)
          clear hK K
          refine wpAnyH_done (by kernel_rfl) ?_ _
          go_wp2_with fail
          go_meet
          exact ⟨n5, i5, _, _, _, F6.out, hB8, by omega, by rw [← HRk.out, hy5, Rs.bind_ok, ht5]⟩
        · go_simp
          go_wp2_with (go_at_call 40; refine (procedure_any _ b g cap L j 0 D.st.rd).mono ?_; intro e w5 hP; rcases postN_or hP with ⟨n5, t5, c5, i5, hy5, rfl, ht5, hi5, s5, nd5⟩ | ⟨p5, er5, hy5, he, g5⟩ <;> first | (have hs5 := s5.size; clear hP) | (unfold gaveUp at he; subst he))
          rotate_left
          · rw [← HRk.out, hy5, Rs.bind_bad]; exact ⟨rfl, rfl, gb_trans D.st.gb g5⟩
          have r5 := (D.step bl s5 (by omega)).row
          have hB5 := box_gb hHeld s5.gb (fun e => hbx (by injection e))
          refine hK.out _ _ hB5 (fun _ => ?_)
          clear hK K
          refine wpAnyH_ready (rs := [1, 4]) (by kernel_rfl) (by simp) ?_
          refine .cons rfl (fun K hK => ?_) (.cons rfl (fun K hK => ?_) .nil)
          · have cL := rowAt_cell r5
            go_simp
            refine hK.out _ _ hB5 (fun _ => ?_)
            clear hK K
            refine wpAnyH_ready (rs := [4]) (by kernel_rfl) (by simp) ?_
            refine .cons rfl (fun K hK => ?_) .nil
            go_simp
            have r6 : rowAt (w5.alloc (.cells c5.cells 31)) _ = _ := (rowAt_old _ _ _ (Nat.ne_of_lt (Nat.lt_of_lt_of_le lD.1 hs5))).trans r5
            have hB6 := box_alloc (.cells c5.cells 31) hB5
            refine hK.out _ _ hB6 (fun _ => ?_)
            clear hK K
            refine wpAnyH_ready (rs := [5]) (by kernel_rfl) (by simp) ?_
            refine .cons rfl (fun K hK => ?_) .nil
            obtain ⟨g6, N6, cp6, Y6, hrun6, rY6, fY6, F6⟩ := D.push (W := w5.alloc (.cells c5.cells 31)) bl gl s5 nd5 (by have := A3.out.2; omega) rfl
            have hB7 := box_app D bl s5 hrun6 hB6 (by omega)
            clear s5 nd5
            go_simp
            refine hK.out _ _ hB7 (fun _ => ?_)
            clear hK K
            refine wpAnyH_ready (rs := [6]) (by kernel_rfl) (by simp) ?_
            refine .cons rfl (fun K hK => ?_) .nil
            go_simp
            refine hK.out _ _ hB7 (fun _ => ?_)
            clear hK K
            refine wpAnyH_ready (rs := [7]) (by kernel_rfl) (by simp) ?_
            refine .cons rfl (fun K hK => ?_) .nil
            have cY := rowAt_cell rY6
            have hB8 := box_set (v := .slice (some ⟨g6, 0, none⟩) N6 cp6) (j := 4) hB7 hqx
            go_simp
            refine hK.out _ _ hB8 (fun _ => ?_)
            clear hK K
            refine wpAnyH_done (by kernel_rfl) ?_ _
            go_wp2_with fail
            go_meet
            exact ⟨n5, i5, _, _, _, F6.out, hB8, by omega, by rw [← HRk.out, hy5, Rs.bind_ok, ht5]⟩
          · go_simp
            have r6 : rowAt (w5.alloc (.cells c5.cells 31)) _ = _ := (rowAt_old _ _ _ (Nat.ne_of_lt (Nat.lt_of_lt_of_le lD.1 hs5))).trans r5
            have hB6 := box_alloc (.cells c5.cells 31) hB5
            refine hK.out _ _ hB6 (fun _ => ?_)
            clear hK K
            refine wpAnyH_ready (rs := [1]) (by kernel_rfl) (by simp) ?_
            refine .cons rfl (fun K hK => ?_) .nil
            have cL := rowAt_cell r6
            go_simp
            refine hK.out _ _ hB6 (fun _ => ?_)
            clear hK K
            refine wpAnyH_ready (rs := [5]) (by kernel_rfl) (by simp) ?_
            refine .cons rfl (fun K hK => ?_) .nil
            obtain ⟨g6, N6, cp6, Y6, hrun6, rY6, fY6, F6⟩ := D.push (W := w5.alloc (.cells c5.cells 31)) bl gl s5 nd5 (by have := A3.out.2; omega) rfl
            have hB7 := box_app D bl s5 hrun6 hB6 (by omega)
            clear s5 nd5
            go_simp
            refine hK.out _ _ hB7 (fun _ => ?_)
            clear hK K
            refine wpAnyH_ready (rs := [6]) (by kernel_rfl) (by simp) ?_
            refine .cons rfl (fun K hK => ?_) .nil
            go_simp
            refine hK.out _ _ hB7 (fun _ => ?_)
            clear hK K
            refine wpAnyH_ready (rs := [7]) (by kernel_rfl) (by simp) ?_
            refine .cons rfl (fun K hK => ?_) .nil
            have cY := rowAt_cell rY6
            have hB8 := box_set (v := .slice (some ⟨g6, 0, none⟩) N6 cp6) (j := 4) hB7 hqx
            go_simp
            refine hK.out _ _ hB8 (fun _ => ?_)
            clear hK K
            refine wpAnyH_done (by kernel_rfl) ?_ _
            go_wp2_with fail
            go_meet
            exact ⟨n5, i5, _, _, _, F6.out, hB8, by omega, by rw [← HRk.out, hy5, Rs.bind_ok, ht5]⟩
      case rest =>
      obtain ⟨n9, j9, a9, N9, m9, A9⟩ := hcut
      clear A3 b3 h3l hs3 AJ HRk
      have b9 := A9.out.2.1
      have i9 := A9.out.2.2.1
      go_wp2_with (go_at_call 30; refine (must_any _ b g cap L j9 0 A9.out.1.st.rd [59] (by decide)).mono ?_; intro e w10 hP; rcases postT_or hP with ⟨x10, u10x, hm10, rfl, ht10, s10⟩ | ⟨p10, er10, hm10, he, g10⟩ <;> first
        | (have hs10 := s10.size; have il10 := s10.rd.il; obtain ⟨f2, hf2⟩ : ∃ f2, f1 = f2 + 1 := ⟨f1 - 1, by omega⟩; have K10 : Hid (∀ gf, L.length - (j9 + 1) ≤ gf → ∃ j l a N m f1, FN w w10 b g cap L j 0 (w.heap.size + 1) w2.heap.size (w2.heap.size + 1) 1 z2.t false x1.p a N m l ∧ w10.cell? ⟨w.heap.size, 0, none⟩ = some (.pointer (some ⟨b, 0, none⟩)) ∧ i < j ∧ ((procsR (f1 + 1) l (L.drop j)).bind fun l4 r => mo6 z2.t x1.p l4.kids r) = R ∧ L.length ≤ j + f1 ∧ L.length - j ≤ gf) := (fun gf hgf => ⟨j9 + 1, l ++ [n9], _, _, _, f2, A9.out.1.step bl s10 (by omega), box_gb b9 s10.gb (fun e => hbx (by injection e)), by omega, (by rw [← A9.out.2.2.2, hm10, Rs.bind_ok, ht10, hf2]), by omega, hgf⟩); clear hP hm10 ht10 s10 hf2)
        | (unfold gaveUp at he; subst he; have G : Hid (R = .bad p10 er10 ∧ w.grownBy w10 (some b)) := ⟨by rw [← A9.out.2.2.2, hm10, Rs.bind_bad], gb_trans A9.out.1.st.gb g10⟩; clear hP hm10))
      all_goals first
        | (rw [G.out.1]; exact ⟨rfl, rfl, G.out.2⟩)
        | (have hK := K10.out
           obtain ⟨g', rfl⟩ : ∃ g', gk = g' + 1 := ⟨gk - 1, by omega⟩
           go_roundg g'
           case measure => omega
           case rel => exact hK _ (by omega))
    · have dJ : decide (wd (L.drop j) = [80, 82, 79, 67, 69, 68, 85, 82, 69]) = false := by simpa using hw
      have HRk : Hid (mo6 z2.t x1.p l (L.drop j) = R) := by show _ = _; rw [← HRj.out, if_neg hw, Rs.bind_ok]; rfl
      clear hw HRj
      go_upto_if 59 with (first
        | (go_at_call 39; refine (word_any _ b g cap L j 0 AJ.out.st.rd).mono ?_; rintro e w3 ⟨rfl, hb3⟩; have hs3 := hb3.size; have A3 : Hid (FN w w3 b g cap L j 0 (w.heap.size + 1) w2.heap.size (w2.heap.size + 1) 1 z2.t false x1.p a N m l) := AJ.out.below bl hb3; have b3 : w3.cell? ⟨w.heap.size, 0, none⟩ = some (.pointer (some ⟨b, 0, none⟩)) := box_below bJ hb3; clear hb3)
        | (go_at_call 32; refine (found_any _ b g cap L j 0 A3.out.st.rd [66, 69, 71, 73, 78] (by decide)).mono ?_; rintro e w7 ⟨rfl, s7⟩; have hs7 := s7.size; have b7 : w7.cell? ⟨w.heap.size, 0, none⟩ = some (.pointer (some ⟨b, 0, none⟩)) := box_gb b3 s7.gb (fun e => hbx (by injection e)); have S7 : Hid (St w3 w7 b g cap L (if wd (L.drop j) = [66, 69, 71, 73, 78] then j + 1 else j) 0) := s7; clear s7))
      go_cut [] (fun Y => ∃ l8 j8 a8 N8 m8, Hid (FN w Y b g cap L j8 0 (w.heap.size + 1) w2.heap.size (w2.heap.size + 1) 1 z2.t false x1.p a8 N8 m8 l8 ∧ Y.cell? ⟨w.heap.size, 0, none⟩ = some (.pointer (some ⟨b, 0, none⟩)) ∧ i < j8 ∧ mo7 z2.t x1.p l8 (L.drop j8) = R))
      case first =>
        by_cases hw : wd (L.drop j) = [66, 69, 71, 73, 78]
        · have d7 : decide (wd (L.drop j) = [66, 69, 71, 73, 78]) = true := by simpa using hw
          have A7 : Hid (FN w w7 b g cap L (j + 1) 0 (w.heap.size + 1) w2.heap.size (w2.heap.size + 1) 1 z2.t false x1.p a N m l ∧ ((blockR 0 (L.drop (j + 1))).bind fun y s => mo7 z2.t x1.p (l ++ [y]) s) = R ∧ l.length ≤ j) := ⟨A3.out.step bl (by have := S7.out; rwa [if_pos hw] at this) (by omega), by rw [← HRk.out]; unfold mo6; rw [if_pos hw, List.tail_drop], A3.out.len⟩
          clear hw S7
          rw [d7]
          go_upto_region 15 with fail
          have h7l := A7.out.1.lt
          have D := (A7.out.1).drew bl
          have rD := D.row
          have lD := D.lt
          refine wp_region_held_drew (S := (fun X => X.cell? ⟨w.heap.size, 0, none⟩ = some (.pointer (some ⟨b, 0, none⟩)))) (by kernel_rfl) (box_drew b7) (fun hHeld => ?_)
          refine wpAnyH_take (i := 0) (v := ?_) rfl (by kernel_rfl) (by kernel_rfl) (by kernel_rfl) (fun _ _ _ h => h) (Or.inl ⟨by rfl, ?y0e⟩) hHeld ?r0e
          case y0e => (intro w2 hSw; (try dsimp only at hSw); go_simp; try rfl)
          simp only [Act.put, List.setIfInBounds_toArray, List.set_cons_zero, List.set_cons_succ]
          refine wpAnyH_take (i := 2) (v := ?_) rfl (by kernel_rfl) (by kernel_rfl) (by kernel_rfl) (fun _ _ _ h => h) (Or.inl ⟨by rfl, ?y2e⟩) hHeld ?r2e
          case y2e => (intro w2 hSw; (try dsimp only at hSw); go_simp; try rfl)
          simp only [Act.put, List.setIfInBounds_toArray, List.set_cons_zero, List.set_cons_succ]
          refine wpAnyH_ready (rs := [1, 3]) (by kernel_rfl) (by simp) ?_
          refine .cons rfl (fun K hK => ?_) (.cons rfl (fun K hK => ?_) .nil)
          · have cL := rowAt_cell rD
            go_simp
            refine hK.out _ _ hHeld (fun _ => ?_)
            clear hK K
            refine wpAnyH_ready (rs := [3]) (by kernel_rfl) (by simp) ?_
            refine .cons rfl (fun K hK => ?_) .nil
            go_simp
            go_wp2_with (go_at_call 41; refine (block_any _ b g cap L (j + 1) 0 D.st.rd).mono ?_; intro e w5 hP; rcases postB_or hP with ⟨n5, t5, c5, i5, hy5, rfl, ht5, hi5, s5, nd5⟩ | ⟨p5, er5, hy5, he, g5⟩ <;> first | (have hs5 := s5.size; clear hP) | (unfold gaveUp at he; subst he))
            rotate_left
            · rw [← A7.out.2.1, hy5, Rs.bind_bad]; exact ⟨rfl, rfl, gb_trans D.st.gb g5⟩
            have r5 := (D.step bl s5 (by omega)).row
            have hB5 := box_gb hHeld s5.gb (fun e => hbx (by injection e))
            refine hK.out _ _ hB5 (fun _ => ?_)
            clear hK K
            refine wpAnyH_ready (rs := [4]) (by kernel_rfl) (by simp) ?_
            refine .cons rfl (fun K hK => ?_) .nil
            go_simp
            have r6 : rowAt (w5.alloc (.cells c5.cells 31)) _ = _ := (rowAt_old _ _ _ (Nat.ne_of_lt (Nat.lt_of_lt_of_le lD.1 hs5))).trans r5
            have hB6 := box_alloc (.cells c5.cells 31) hB5
            refine hK.out _ _ hB6 (fun _ => ?_)
            clear hK K
            refine wpAnyH_ready (rs := [5]) (by kernel_rfl) (by simp) ?_
            refine .cons rfl (fun K hK => ?_) .nil
            obtain ⟨g6, N6, cp6, Y6, hrun6, rY6, fY6, F6⟩ := D.push (W := w5.alloc (.cells c5.cells 31)) bl gl s5 nd5 (by have := A7.out.2.2; omega) rfl
            have hB7 := box_app D bl s5 hrun6 hB6 (by omega)
            clear s5 nd5
            go_simp
            refine hK.out _ _ hB7 (fun _ => ?_)
            clear hK K
            refine wpAnyH_ready (rs := [6]) (by kernel_rfl) (by simp) ?_
            refine .cons rfl (fun K hK => ?_) .nil
            go_simp
            refine hK.out _ _ hB7 (fun _ => ?_)
            clear hK K
            refine wpAnyH_ready (rs := [7]) (by kernel_rfl) (by simp) ?_
            refine .cons rfl (fun K hK => ?_) .nil
            have cY := rowAt_cell rY6
            have hB8 := box_set (v := .slice (some ⟨g6, 0, none⟩) N6 cp6) (j := 4) hB7 hqx
            go_simp
            refine hK.out _ _ hB8 (fun _ => ?_)
            clear hK K
            refine wpAnyH_done (by kernel_rfl) ?_ _
            go_wp2_with fail
            go_meet
            exact ⟨_, i5, _, _, _, F6.out, hB8, by omega, by rw [← A7.out.2.1, hy5, Rs.bind_ok, ht5]⟩
          · go_simp
            go_wp2_with (go_at_call 41; refine (block_any _ b g cap L (j + 1) 0 D.st.rd).mono ?_; intro e w5 hP; rcases postB_or hP with ⟨n5, t5, c5, i5, hy5, rfl, ht5, hi5, s5, nd5⟩ | ⟨p5, er5, hy5, he, g5⟩ <;> first | (have hs5 := s5.size; clear hP) | (unfold gaveUp at he; subst he))
            rotate_left
            · rw [← A7.out.2.1, hy5, Rs.bind_bad]; exact ⟨rfl, rfl, gb_trans D.st.gb g5⟩
            have r5 := (D.step bl s5 (by omega)).row
            have hB5 := box_gb hHeld s5.gb (fun e => hbx (by injection e))
            refine hK.out _ _ hB5 (fun _ => ?_)
            clear hK K
            refine wpAnyH_ready (rs := [1, 4]) (by kernel_rfl) (by simp) ?_
            refine .cons rfl (fun K hK => ?_) (.cons rfl (fun K hK => ?_) .nil)
            · have cL := rowAt_cell r5
              go_simp
              refine hK.out _ _ hB5 (fun _ => ?_)
              clear hK K
              refine wpAnyH_ready (rs := [4]) (by kernel_rfl) (by simp) ?_
              refine .cons rfl (fun K hK => ?_) .nil
              go_simp
              have r6 : rowAt (w5.alloc (.cells c5.cells 31)) _ = _ := (rowAt_old _ _ _ (Nat.ne_of_lt (Nat.lt_of_lt_of_le lD.1 hs5))).trans r5
              have hB6 := box_alloc (.cells c5.cells 31) hB5
              refine hK.out _ _ hB6 (fun _ => ?_)
              clear hK K
              refine wpAnyH_ready (rs := [5]) (by kernel_rfl) (by simp) ?_
              refine .cons rfl (fun K hK => ?_) .nil
              obtain ⟨g6, N6, cp6, Y6, hrun6, rY6, fY6, F6⟩ := D.push (W := w5.alloc (.cells c5.cells 31)) bl gl s5 nd5 (by have := A7.out.2.2; omega) rfl
              have hB7 := box_app D bl s5 hrun6 hB6 (by omega)
              clear s5 nd5
              go_simp
              refine hK.out _ _ hB7 (fun _ => ?_)
              clear hK K
              refine wpAnyH_ready (rs := [6]) (by kernel_rfl) (by simp) ?_
              refine .cons rfl (fun K hK => ?_) .nil
              go_simp
              refine hK.out _ _ hB7 (fun _ => ?_)
              clear hK K
              refine wpAnyH_ready (rs := [7]) (by kernel_rfl) (by simp) ?_
              refine .cons rfl (fun K hK => ?_) .nil
              have cY := rowAt_cell rY6
              have hB8 := box_set (v := .slice (some ⟨g6, 0, none⟩) N6 cp6) (j := 4) hB7 hqx
              go_simp
              refine hK.out _ _ hB8 (fun _ => ?_)
              clear hK K
              refine wpAnyH_done (by kernel_rfl) ?_ _
              go_wp2_with fail
              go_meet
              exact ⟨_, i5, _, _, _, F6.out, hB8, by omega, by rw [← A7.out.2.1, hy5, Rs.bind_ok, ht5]⟩
            · go_simp
              have r6 : rowAt (w5.alloc (.cells c5.cells 31)) _ = _ := (rowAt_old _ _ _ (Nat.ne_of_lt (Nat.lt_of_lt_of_le lD.1 hs5))).trans r5
              have hB6 := box_alloc (.cells c5.cells 31) hB5
              refine hK.out _ _ hB6 (fun _ => ?_)
              clear hK K
              refine wpAnyH_ready (rs := [1]) (by kernel_rfl) (by simp) ?_
              refine .cons rfl (fun K hK => ?_) .nil
              have cL := rowAt_cell r6
              go_simp
              refine hK.out _ _ hB6 (fun _ => ?_)
              clear hK K
              refine wpAnyH_ready (rs := [5]) (by kernel_rfl) (by simp) ?_
              refine .cons rfl (fun K hK => ?_) .nil
              obtain ⟨g6, N6, cp6, Y6, hrun6, rY6, fY6, F6⟩ := D.push (W := w5.alloc (.cells c5.cells 31)) bl gl s5 nd5 (by have := A7.out.2.2; omega) rfl
              have hB7 := box_app D bl s5 hrun6 hB6 (by omega)
              clear s5 nd5
              go_simp
              refine hK.out _ _ hB7 (fun _ => ?_)
              clear hK K
              refine wpAnyH_ready (rs := [6]) (by kernel_rfl) (by simp) ?_
              refine .cons rfl (fun K hK => ?_) .nil
              go_simp
              refine hK.out _ _ hB7 (fun _ => ?_)
              clear hK K
              refine wpAnyH_ready (rs := [7]) (by kernel_rfl) (by simp) ?_
              refine .cons rfl (fun K hK => ?_) .nil
              have cY := rowAt_cell rY6
              have hB8 := box_set (v := .slice (some ⟨g6, 0, none⟩) N6 cp6) (j := 4) hB7 hqx
              go_simp
              refine hK.out _ _ hB8 (fun _ => ?_)
              clear hK K
              refine wpAnyH_done (by kernel_rfl) ?_ _
              go_wp2_with fail
              go_meet
              exact ⟨_, i5, _, _, _, F6.out, hB8, by omega, by rw [← A7.out.2.1, hy5, Rs.bind_ok, ht5]⟩
        · have d7 : decide (wd (L.drop j) = [66, 69, 71, 73, 78]) = false := by simpa using hw
          have A8 : Hid (FN w w7 b g cap L j 0 (w.heap.size + 1) w2.heap.size (w2.heap.size + 1) 1 z2.t false x1.p a N m l ∧ w7.cell? ⟨w.heap.size, 0, none⟩ = some (.pointer (some ⟨b, 0, none⟩)) ∧ i < j ∧ mo7 z2.t x1.p l (L.drop j) = R) := ⟨A3.out.step bl (by have := S7.out; rwa [if_neg hw] at this) (Nat.le_refl _), b7, hij, by rw [← HRk.out]; unfold mo6; rw [if_neg hw]⟩
          clear hw S7
          rw [d7]
          go_wp2_with fail
          go_meet
          exact ⟨_, _, _, _, _, A8⟩
      case rest =>
      obtain ⟨l8, j8, a8, N8, m8, A8⟩ := hcut
      clear A3 AJ S7 HRk hs7 hs3 b3 b7
      have b8 := A8.out.2.1
      have r8 := A8.out.1.row
      have c8 := rowAt_cell r8
      go_wp2_with (first
        | (go_at_call 42; refine (ending_any _ b g cap L j8 0 A8.out.1.st.rd z2.t).mono ?_; intro e w11 hP; rcases postU_or hP with ⟨x11, t11, i11, hy11, rfl, ht11, hi11, s11⟩ | ⟨p11, er11, hy11, he, g11⟩ <;> first
            | (have hs11 := s11.size; have A11 : Hid (FN w w11 b g cap L i11 0 (w.heap.size + 1) w2.heap.size (w2.heap.size + 1) 1 z2.t false x1.p a8 N8 m8 l8 ∧ i < i11 ∧ ((mustR [46] (L.drop i11)).bind fun _ s => Rs.ok (Nd.mk 1 z2.t 0 false l8 x1.p) s) = R) := ⟨A8.out.1.step bl s11 (by omega), (by have := A8.out.2.2.1; omega), by rw [← A8.out.2.2.2]; unfold mo7; rw [hy11, Rs.bind_ok, ht11]⟩; have b11 : w11.cell? ⟨w.heap.size, 0, none⟩ = some (.pointer (some ⟨b, 0, none⟩)) := box_gb b8 s11.gb (fun e => hbx (by injection e)); clear hP hy11 ht11 s11 r8 c8)
            | (unfold gaveUp at he; subst he; have G : Hid (R = .bad p11 er11 ∧ w.grownBy w11 (some b)) := ⟨by rw [← A8.out.2.2.2]; unfold mo7; rw [hy11, Rs.bind_bad], gb_trans A8.out.1.st.gb g11⟩; clear hP hy11))
        | (go_at_call 30; refine (must_any _ b g cap L i11 0 A11.out.1.st.rd [46] (by decide)).mono ?_; intro e w12 hP; rcases postT_or hP with ⟨x12, u12x, hm12, rfl, ht12, s12⟩ | ⟨p12, er12, hm12, he, g12⟩ <;> first
            | (have hs12 := s12.size; have A12 : FN w w12 b g cap L (i11 + 1) 0 (w.heap.size + 1) w2.heap.size (w2.heap.size + 1) 1 z2.t false x1.p a8 N8 m8 l8 := A11.out.1.step bl s12 (by omega); have r12 := A12.row; have m12 := A12.res; have H12 : Hid (FN w w12 b g cap L (i11 + 1) 0 (w.heap.size + 1) w2.heap.size (w2.heap.size + 1) 1 z2.t false x1.p a8 N8 m8 l8 ∧ i < i11 + 1 ∧ Rs.ok (Nd.mk 1 z2.t 0 false l8 x1.p) (L.drop (i11 + 1)) = R) := ⟨A12, (by have := A11.out.2.1; omega), by rw [← A11.out.2.2, hm12, Rs.bind_ok, ht12]⟩; clear A12 hP hm12 ht12 s12)
            | (unfold gaveUp at he; subst he; have G : Hid (R = .bad p12 er12 ∧ w.grownBy w12 (some b)) := ⟨by rw [← A11.out.2.2, hm12, Rs.bind_bad], gb_trans A11.out.1.st.gb g12⟩; clear hP hm12)))
      all_goals first
        | (rw [G.out.1]; exact ⟨rfl, rfl, G.out.2⟩)
        | (rw [← H12.out.2.2]; exact ret_cell1 rfl rfl (loadNd_row (rowNd_put _ _ _ m12)) rfl (H12.out.1.fin bl gl H12.out.2.1))
end Go.Proofs.YtllhcjmabhempaaDoor
