/-
  Layer 9: arrays.
  Layer 9: a node of the call's own whose kids grow.
  Layer 9: records.
  Layer 9: types.
-/
import Derived.Test.YtllhcjmabhempaaDoorTnm
namespace Go.Proofs.YtllhcjmabhempaaDoor
set_option linter.unusedVariables false
set_option linter.unusedSimpArgs false
open Go.ChangeShapes Go.WideShapes Go.ChangeAt Go.RowKit


attribute [local go_sem] fieldTk0 fieldTk3 hmf
attribute [local go_sem ↓] bslNd_seal
attribute [local go_sem] bslNd1_run bslNd2_run

theorem postN_or {w w' : World} {b g cap i o : Nat} {L : List Tok} {R : Rs Nd} {e : Ending} (hP : PostN w b g cap L i o R e w') :
    (∃ n t c i', R = .ok n t ∧ e = .returned (.agg (Nc.cells c)) ∧ t = L.drop i' ∧ i < i' ∧ St w w' b g cap L i' o ∧ NdAt w' (fun x => w.heap.size ≤ x) c n) ∨ (∃ p er, R = .bad p er ∧ e = gaveUp p er ∧ w.grownBy w' (some b)) := by
  cases R with
  | ok n t => obtain ⟨c, i', h⟩ := hP; exact .inl ⟨n, t, c, i', rfl, h⟩
  | bad p er => exact .inr ⟨p, er, rfl, hP⟩
theorem postT_or {w w' : World} {b g cap i o : Nat} {L : List Tok} {R : Rs Tok} {e : Ending} (hP : PostT w b g cap L i o R e w') :
    (∃ x t, R = .ok x t ∧ e = .returned (.agg x.tk.cells) ∧ t = L.drop (i + 1) ∧ St w w' b g cap L (i + 1) o) ∨ (∃ p er, R = .bad p er ∧ e = gaveUp p er ∧ w.grownBy w' (some b)) := by
  cases R with
  | ok n t => exact .inl ⟨n, t, rfl, hP⟩
  | bad p er => exact .inr ⟨p, er, rfl, hP⟩
theorem postL_or {w w' : World} {b g cap i o : Nat} {L : List Tok} {R : Rs Nd} {e : Ending} (hP : PostL w b g cap L i o R e w') :
    (∃ n t g' m i' cs N, R = .ok n t ∧ e = .returned (.slice (some ⟨g', 0, none⟩) N m) ∧ t = L.drop i' ∧ i < i' ∧ St w w' b g cap L i' o ∧ KidsAt w' (fun x => w.heap.size ≤ x) (some ⟨g', 0, none⟩) 0 n.kids ∧ g' < w'.heap.size ∧ w.heap.size ≤ g' ∧ Rw w' w.heap.size (.slice (some ⟨g', 0, none⟩) n.kids.length m) n.kids cs ∧ 0 < n.kids.length ∧ n.kids.length ≤ i' ∧ Hid (N = n.kids.length)) ∨ (∃ p er, R = .bad p er ∧ e = gaveUp p er ∧ w.grownBy w' (some b)) := by
  cases R with
  | ok n t => obtain ⟨g', m, i', h1, h2, h3, h4, h5, h6, h7, cs, h8, h9, h10⟩ := hP; exact .inl ⟨n, t, g', m, i', cs, _, rfl, h1, h2, h3, h4, h5, h6, h7, h8, h9, h10, rfl⟩
  | bad p er => exact .inr ⟨p, er, rfl, hP⟩
/-- What typeNode and array read, with so much fuel. -/
def PyT (f : Nat) : Prop := ∀ (w : World) (b g cap : Nat) (L : List Tok) (i o : Nat), RdAt w b g cap L i o → (L.length - i) * 4 + 2 ≤ f → Calls Tryd.prog 55 #[.pointer (some ⟨b, 0, none⟩)] w (PostN w b g cap L i o (runY f .type o (L.drop i)))
def PyA (f : Nat) : Prop := ∀ (w : World) (b g cap : Nat) (L : List Tok) (i o p : Nat), RdAt w b g cap L i o → (hd (L.drop i)).k ≠ 0 → (L.length - i) * 4 + 1 ≤ f → Calls Tryd.prog 65 #[.pointer (some ⟨b, 0, none⟩), .int .i64 (p : Int)] w (PostN w b g cap L i o (runY f (.arr p) o (L.drop i)))
set_option maxHeartbeats 8000000 in
set_option maxRecDepth 20000 in
theorem array_step (f : Nat) (hA : PyA f) (hT : PyT f) : PyA (f + 1) := by
  intro w b g cap L i o p h hk0 hf
  have bl := h.bl
  have gl := h.gl
  have hil := h.il
  have hol := h.ol
  have H : Hid (RdAt w b g cap L i o) := h
  rw [runY]
  unfold beginR
  by_cases ho : o = 24
  · subst ho
    rw [if_pos rfl, Rs.bind_bad]
    have BN : Hid (∀ X, RdAt X b g cap L i 24 → Calls Tryd.prog 76 #[.pointer (some ⟨b, 0, none⟩)] X _) := fun X hX => begin_no X b g cap L i hX
    clear h hA hT
    generalize (hd (L.drop i)).p = p at BN ⊢
    go_enter Tryd.func65, Tryd.ntmps65
    go_wp2_with (go_at_call 76; refine (BN.out _ (H.out.alloc _)).mono ?_; rintro e w2 ⟨he, g2⟩; unfold gaveUp at he; subst he)
    exact ⟨rfl, rfl, gb_trans ((St.refl H.out).alloc _).gb g2⟩
  · rw [if_neg ho, Rs.bind_ok, List.tail_drop]
    have BY : Hid (∀ X, RdAt X b g cap L i o → Calls Tryd.prog 76 #[.pointer (some ⟨b, 0, none⟩)] X _) := fun X hX => begin_yes X b g cap L i o hX (by omega) hk0
    have E1 : Hid (∀ X, RdAt X b g cap L (i + 1) (o + 1) → Calls Tryd.prog 16 #[.pointer (some ⟨b, 0, none⟩)] X (PostN X b g cap L (i + 1) (o + 1) (exprR (o + 1) (L.drop (i + 1))))) := fun X hX => expression_any X b g cap L (i + 1) (o + 1) hX
    have WA : Hid (∀ X j, RdAt X b g cap L j (o + 1) → Calls Tryd.prog 39 #[.pointer (some ⟨b, 0, none⟩)] X _) := fun X j hX => word_any X b g cap L j (o + 1) hX
    have MU : Hid (∀ X j, RdAt X b g cap L j (o + 1) → Calls Tryd.prog 30 #[.pointer (some ⟨b, 0, none⟩), .string (bs [79, 70])] X (PostT X b g cap L j (o + 1) (mustR [79, 70] (L.drop j)))) := fun X j hX => must_any X b g cap L j (o + 1) hX _ (by simp)
    have AR : Hid (∀ X j, i < j → (hd (L.drop j)).k ≠ 0 → RdAt X b g cap L j (o + 1) → Calls Tryd.prog 65 #[.pointer (some ⟨b, 0, none⟩), .int .i64 (p : Int)] X (PostN X b g cap L j (o + 1) (runY f (.arr p) (o + 1) (L.drop j)))) := fun X j hj hk hX => hA X b g cap L j (o + 1) p hX hk (by omega)
    have TY : Hid (∀ X j, i < j → RdAt X b g cap L j (o + 1) → Calls Tryd.prog 55 #[.pointer (some ⟨b, 0, none⟩)] X (PostN X b g cap L j (o + 1) (runY f .type (o + 1) (L.drop j)))) := fun X j hj hX => hT X b g cap L j (o + 1) hX (by omega)
    clear h hA hT hf hk0 hil
    generalize hR : ((exprR (o + 1) (L.drop (i + 1))).bind fun y s => (if wd s = [44] then runY f (.arr p) (o + 1) s else (mustR [79, 70] s).bind fun _ u => runY f .type (o + 1) u).bind fun z v => Rs.ok (Nd.mk 11 [] 0 false [y, z] p) v) = R
    have HR : Hid (((exprR (o + 1) (L.drop (i + 1))).bind fun y s => (if wd s = [44] then runY f (.arr p) (o + 1) s else (mustR [79, 70] s).bind fun _ u => runY f .type (o + 1) u).bind fun z v => Rs.ok (Nd.mk 11 [] 0 false [y, z] p) v) = R) := hR
    clear hR
    go_enter Tryd.func65, Tryd.ntmps65
    go_wp2_with (first
      | (go_at_call 76; refine (BY.out _ (H.out.alloc _)).mono ?_; rintro e w1 ⟨rfl, s1⟩; have hs1 := s1.size; simp at hs1; have B1 : Hid (St w w1 b g cap L (i + 1) (o + 1)) := ((St.refl H.out).alloc _).next s1; have m1 : roomAt w1 w.heap.size 6 = true := (s1.room (by simp) (by omega) 6).trans (roomNd_new _ _ _ _ (by simp)))
      | (go_at_call 16; refine (E1.out _ B1.out.rd).mono ?_; intro e w2 hP; rcases postN_or hP with ⟨y, s, c2, i2, hy, rfl, ht2, hi2, s2, nd2⟩ | ⟨p2, er, hy, he, g2⟩ <;> first
          | (have hs2 := s2.size; have m2 : roomAt w2 w.heap.size 6 = true := (s2.room (by omega) (by omega) 6).trans m1; have A2 : Hid (St w w2 b g cap L i2 (o + 1) ∧ NdAt w2 (fun x => w.heap.size + 1 ≤ x) c2 y ∧ i + 1 < i2) := ⟨B1.out.next s2, nd2.mono (by omega), hi2⟩; have Y2 : Hid (exprR (o + 1) (L.drop (i + 1)) = .ok y (L.drop i2)) := (by show _ = _; rw [hy, ht2]); clear nd2 hi2 hy ht2 hP s2)
          | (unfold gaveUp at he; subst he))
      | (go_at_call 39; refine (WA.out _ i2 ((A2.out.1.alloc _).alloc _).rd).mono ?_; rintro e w3 ⟨rfl, hb3⟩; have hs3 := hb3.size; simp at hs3; have B3 : Hid (St w w3 b g cap L i2 (o + 1)) := ((A2.out.1.alloc _).alloc _).below hb3; have m3 : roomAt w3 w.heap.size 6 = true := (roomAt_below hb3 _ _ (by simp; omega)).trans ((roomAt_old _ _ _ _ (by simp; omega)).trans ((roomAt_old _ _ _ _ (by omega)).trans m2)); have r3 : rowAt w3 w2.heap.size = some c2.cells := (rowAt_below hb3 _ (by simp; omega)).trans ((rowAt_old _ _ _ (by simp)).trans (rowAt_at _ _ _ _ _ rfl)); have q3 : roomAt w3 (w2.heap.size + 1) 6 = true := (roomAt_below hb3 _ _ (by simp)).trans (roomNd_new _ _ _ _ (by simp)); have k3 := rk (wd (L.drop i2)); by_cases hw : wd (L.drop i2) = [44] <;> first
          | (have d3 : decide (wd (L.drop i2) = [44]) = true := (by simpa using hw); have hk3 : Hid ((hd (L.drop i2)).k ≠ 0) := wd_kind (by rw [hw]; decide); have W3 : Hid (wd (L.drop i2) = [44]) := hw; clear hw)
          | (have d3 : decide (wd (L.drop i2) = [44]) = false := (by simpa using hw); have W3 : Hid (¬ wd (L.drop i2) = [44]) := hw; clear hw))
      | (go_at_call 65; refine (AR.out _ i2 (by have := A2.out.2.2; omega) hk3.out B3.out.rd).mono ?_; intro e w4 hP; rcases postN_or hP with ⟨z, v, c4, i4, hz, rfl, ht4, hi4, s4, nd4⟩ | ⟨p4, er4, hz, he, g4⟩ <;> first
          | (have hs4 := s4.size; have m4 : roomAt w4 w.heap.size 6 = true := (s4.room (by omega) (by omega) 6).trans m3; have r4 : rowAt w4 w2.heap.size = some c2.cells := (s4.row (by omega) (by omega)).trans r3; have q4 : roomAt w4 (w2.heap.size + 1) 6 = true := (s4.room (by omega) (by omega) 6).trans q3; have A4 : Hid (St w w4 b g cap L i4 (o + 1) ∧ NdAt w4 (fun x => w.heap.size + 1 ≤ x ∧ x < w2.heap.size) c2 y ∧ NdAt w4 (fun x => w2.heap.size + 2 ≤ x) c4 z ∧ i < i4) := ⟨B3.out.next s4, (NdAt.keep (fun x hx hl => ⟨hx, hl⟩) (by omega) (fun x hx hl => (s4.gb.block x (by omega) (fun e => by injection e with e; omega)).trans ((hb3.block x (by simp; omega)).trans (((Below.refl _ _).alloc (Nat.le_refl _) _ |>.alloc (Nat.le_of_lt (by simp)) _).block x hl))) A2.out.2.1), nd4.mono (by omega), by have := A2.out.2.2; omega⟩; have Y4 : Hid (R = .ok (.mk 11 [] 0 false [y, z] p) (L.drop i4)) := (by show _ = _; rw [← HR.out, Y2.out, Rs.bind_ok, if_pos W3.out, hz, Rs.bind_ok, ht4]); clear nd4 hi4 hz ht4 hP s4)
          | (unfold gaveUp at he; subst he))
      | (go_at_call 30; refine (MU.out _ i2 B3.out.rd).mono ?_; intro e w5 hP; rcases postT_or hP with ⟨x5, u, hm, rfl, ht5, s5⟩ | ⟨p5, er5, hm, he, g5⟩ <;> first
          | (have hs5 := s5.size; have m5 : roomAt w5 w.heap.size 6 = true := (s5.room (by omega) (by omega) 6).trans m3; have r5 : rowAt w5 w2.heap.size = some c2.cells := (s5.row (by omega) (by omega)).trans r3; have q5 : roomAt w5 (w2.heap.size + 1) 6 = true := (s5.room (by omega) (by omega) 6).trans q3; have B5 : Hid (St w w5 b g cap L (i2 + 1) (o + 1)) := B3.out.next s5)
          | (unfold gaveUp at he; subst he))
      | (go_at_call 55; refine (TY.out _ (i2 + 1) (by have := A2.out.2.2; omega) B5.out.rd).mono ?_; intro e w4 hP; rcases postN_or hP with ⟨z, v, c4, i4, hz, rfl, ht4, hi4, s4, nd4⟩ | ⟨p4, er4, hz, he, g4⟩ <;> first
          | (have hs4 := s4.size; have m4 : roomAt w4 w.heap.size 6 = true := (s4.room (by omega) (by omega) 6).trans m5; have r4 : rowAt w4 w2.heap.size = some c2.cells := (s4.row (by omega) (by omega)).trans r5; have q4 : roomAt w4 (w2.heap.size + 1) 6 = true := (s4.room (by omega) (by omega) 6).trans q5; have A4 : Hid (St w w4 b g cap L i4 (o + 1) ∧ NdAt w4 (fun x => w.heap.size + 1 ≤ x ∧ x < w2.heap.size) c2 y ∧ NdAt w4 (fun x => w2.heap.size + 2 ≤ x) c4 z ∧ i < i4) := ⟨B5.out.next s4, (NdAt.keep (fun x hx hl => ⟨hx, hl⟩) (by omega) (fun x hx hl => ((gb_trans s5.gb s4.gb).block x (by omega) (fun e => by injection e with e; omega)).trans ((hb3.block x (by simp; omega)).trans (((Below.refl _ _).alloc (Nat.le_refl _) _ |>.alloc (Nat.le_of_lt (by simp)) _).block x hl))) A2.out.2.1), nd4.mono (by omega), by have := A2.out.2.2; omega⟩; have Y4 : Hid (R = .ok (.mk 11 [] 0 false [y, z] p) (L.drop i4)) := (by show _ = _; rw [← HR.out, Y2.out, Rs.bind_ok, if_neg W3.out, hm, Rs.bind_ok, ht5, hz, Rs.bind_ok, ht4]); clear nd4 hi4 hz ht4 hP s4)
          | (unfold gaveUp at he; subst he))
      | (go_at_call 77; refine (end_any _ b g cap L i4 o (A4.out.1.old bl gl _ (by omega) _).rd).mono ?_; rintro e w6 ⟨rfl, s6⟩; have hs6 := s6.size; rw [size_put] at hs6; have m6 : roomAt w6 w.heap.size 6 = true := (s6.room (by rw [size_put]; omega) (by omega) 6).trans ((room_far _ _ _ _ _ (by omega)).trans m4); have r6 : rowAt w6 w2.heap.size = some c2.cells := (s6.row (by rw [size_put]; omega) (by omega)).trans ((row_far _ _ _ _ (by omega)).trans r4); have q6 : rowAt w6 (w2.heap.size + 1) = some c4.cells := (s6.row (by rw [size_put]; omega) (by omega)).trans (rowNd_put _ _ _ q4))
      | (go_at_call 59; refine (node_any _ _ _ _ _ _).mono ?_; rintro e w7 ⟨rfl, hb7⟩; have hs7 := hb7.size; simp at hs7; have m7 : roomAt w7 w.heap.size 6 = true := (roomAt_below hb7 _ _ (by simp; omega)).trans ((roomAt_old _ _ _ _ (by omega)).trans m6)))
    all_goals first
      | (rw [← HR.out, hy, Rs.bind_bad]; exact ⟨rfl, rfl, gb_trans B1.out.gb g2⟩)
      | (rw [← HR.out, Y2.out, Rs.bind_ok, if_pos W3.out, hz, Rs.bind_bad]; exact ⟨rfl, rfl, gb_trans B3.out.gb g4⟩)
      | (rw [← HR.out, Y2.out, Rs.bind_ok, if_neg W3.out, hm, Rs.bind_bad, Rs.bind_bad]; exact ⟨rfl, rfl, gb_trans B3.out.gb g5⟩)
      | (rw [← HR.out, Y2.out, Rs.bind_ok, if_neg W3.out, hm, Rs.bind_ok, ht5, hz, Rs.bind_bad]; exact ⟨rfl, rfl, gb_trans B5.out.gb g4⟩)
      | (have S7 : St w w7 b g cap L i4 o := (((A4.out.1.old bl gl _ (by omega) _).next s6).alloc _).below hb7
         have mb : w7.heap[w6.heap.size]? = some (.cells (c2.cells ++ c4.cells) 31 (0, 0)) := (hb7.block _ (by simp)).trans (heap_new' _ _ rfl)
         have kp : ∀ x, x < w4.heap.size → x ≠ w2.heap.size + 1 → x ≠ b → w7.heap[x]? = w4.heap[x]? := fun x h1 h2 h3 => (hb7.block x (by simp; omega)).trans ((((Below.refl _ _).alloc (Nat.le_refl _) _).block x (by omega)).trans ((s6.gb.block x (by rw [size_put]; omega) (fun e => by injection e with e; omega)).trans (put_far _ _ _ _ h2)))
         have n1 : NdAt w7 (fun x => w.heap.size + 1 ≤ x) c2 y := A4.out.2.1.keep (fun x hx _ => hx.1) (by omega) (fun x hx hl => kp x hl (by omega) (by omega))
         have n2 : NdAt w7 (fun x => w.heap.size + 1 ≤ x) c4 z := A4.out.2.2.1.keep (fun x hx _ => by omega) (by omega) (fun x hx hl => kp x hl (by omega) (by omega))
         rw [Y4.out]
         exact ret_cell1 rfl rfl (loadNd_row (rowNd_put _ _ _ m7)) rfl (fin_post (i := i) S7 bl gl A4.out.2.2.2 rfl (two_made 11 [] p (by omega) mb n1 n2)))
end Go.Proofs.YtllhcjmabhempaaDoor

namespace Go.Proofs.YtllhcjmabhempaaDoor
set_option linter.unusedVariables false
set_option linter.unusedSimpArgs false
open Go.ChangeShapes Go.WideShapes Go.ChangeAt Go.RowKit



/-- A node in block q whose kids are a row of the call's own, beside the reader and the result's block r; all kids lie at B and behind. -/
structure FN (w X : World) (b g cap : Nat) (L : List Tok) (j o r q B : Nat) (k : Int) (t : Bs) (fl : Bool) (p : Nat) (a : Option Addr) (N m : Nat) (l : List Nd) : Prop where
  st : St w X b g cap L j o
  row : rowAt X q = some (⟨k, bs t, 0, fl, a, N, m, (p : Int)⟩ : Nc).cells
  room : roomAt X q 6 = true
  res : roomAt X r 6 = true
  rws : ∃ cs, Rw X B (.slice a N m) l cs
  hq : w.heap.size ≤ q
  hr : w.heap.size ≤ r
  qr : q ≠ r
  qB : q < B
  rB : r < B
  BX : B ≤ X.heap.size
  len : l.length ≤ j
theorem room_set {w : World} {b n : Nat} (h : roomAt w b n = true) (i : Nat) (v : Value) : roomAt (w.setCell ⟨b, i, none⟩ v) b n = true := by
  unfold roomAt at h ⊢
  split at h
  · rename_i cs t fr hb
    rw [Go.Joins.block_setCell hb v]
    simpa using h
  · cases h
section
variable {w X Y : World} {b g cap : Nat} {L : List Tok} {j o r q B : Nat} {k : Int} {t : Bs} {fl : Bool} {p : Nat} {a : Option Addr} {N m : Nat} {l : List Nd}
theorem FN.step {j' o' : Nat} (h : FN w X b g cap L j o r q B k t fl p a N m l) (bl : b < w.heap.size) (s : St X Y b g cap L j' o') (hj : j ≤ j') : FN w Y b g cap L j' o' r q B k t fl p a N m l where
  st := h.st.next s
  row := (s.row (by have := h.qB; have := h.BX; omega) (by have := h.hq; omega)).trans h.row
  room := (s.room (by have := h.qB; have := h.BX; omega) (by have := h.hq; omega) 6).trans h.room
  res := (s.room (by have := h.rB; have := h.BX; omega) (by have := h.hr; omega) 6).trans h.res
  rws := h.rws.imp fun cs R => R.step (by have := h.hq; have := h.qB; omega) s.gb
  hq := h.hq
  hr := h.hr
  qr := h.qr
  qB := h.qB
  rB := h.rB
  BX := Nat.le_trans h.BX s.size
  len := Nat.le_trans h.len hj
theorem FN.below (h : FN w X b g cap L j o r q B k t fl p a N m l) (bl : b < w.heap.size) (hb : Below X.heap.size X Y) : FN w Y b g cap L j o r q B k t fl p a N m l :=
  h.step bl ((St.refl h.st.rd).below hb) (Nat.le_refl _)
theorem FN.drew (h : FN w X b g cap L j o r q B k t fl p a N m l) (bl : b < w.heap.size) : FN w X.drew b g cap L j o r q B k t fl p a N m l :=
  h.step bl (St.refl h.st.rd).drew (Nat.le_refl _)
theorem FN.alloc (h : FN w X b g cap L j o r q B k t fl p a N m l) (bl : b < w.heap.size) (x : Obj) : FN w (X.alloc x) b g cap L j o r q B k t fl p a N m l :=
  h.step bl ((St.refl h.st.rd).alloc x) (Nat.le_refl _)
theorem FN.num (h : FN w X b g cap L j o r q B k t fl p a N m l) : N = l.length := by
  obtain ⟨cs, R⟩ := h.rws
  rw [← R.len]
  rcases R.own.2 with ⟨e, h0⟩ | ⟨g2, cp, cur, e, h1⟩
  · injection e with _ e _; omega
  · injection e with _ e _
theorem FN.fz (h : FN w X b g cap L j o r q B k t fl p a N m l) (i : Nat) (hi : i < 6) : X.frozen? ⟨q, i, none⟩ = false := by
  have h4 := (room_there h.room i hi).2; rwa [Nat.zero_add] at h4
theorem FN.lt (h : FN w X b g cap L j o r q B k t fl p a N m l) : q < X.heap.size ∧ r < X.heap.size ∧ w.heap.size ≤ X.heap.size := ⟨Nat.lt_of_lt_of_le h.qB h.BX, Nat.lt_of_lt_of_le h.rB h.BX, h.st.size⟩
/-- One kid more. -/
theorem FN.push {W X5 : World} {j5 : Nat} {c5 : Nc} {n : Nd} (h : FN w X b g cap L j o r q B k t fl p a N m l) (bl : b < w.heap.size) (gl : g < w.heap.size) (s5 : St X X5 b g cap L j5 o) (nd5 : NdAt X5 (fun x => X.heap.size ≤ x) c5 n) (hj : l.length + 1 ≤ j5) (hW : W = X5.alloc (.cells c5.cells 31)) :
    ∃ g2 N2 cp Y, (appN #[29, 29] 29 #[.slice a N m, .slice (some ⟨X5.heap.size, 0, none⟩) 1 1]).run Tryd.prog W = .ok (.slice (some ⟨g2, 0, none⟩) N2 cp) Y ∧ rowAt Y q = some (⟨k, bs t, 0, fl, a, N, m, (p : Int)⟩ : Nc).cells ∧ Y.frozen? ⟨q, 4, none⟩ = false ∧ Hid (FN w (Y.setCell ⟨q, 4, none⟩ (.slice (some ⟨g2, 0, none⟩) N2 cp)) b g cap L j5 o r q B k t fl p (some ⟨g2, 0, none⟩) N2 cp (l ++ [n])) := by
  subst hW
  obtain ⟨i0, hi0, hz0, hz1, hz2⟩ := info_parts infoNd
  obtain ⟨cs, R⟩ := h.rws
  have hqB := h.qB
  have hrB := h.rB
  have hBX := h.BX
  have hs5 := s5.size
  have hhq := h.hq
  have hhr := h.hr
  have hle := h.len
  have hll := h.st.rd.ll
  have hjl := s5.rd.il
  have R5 : Rw (X5.alloc (.cells c5.cells 31)) B (.slice a N m) l cs := (R.step (b := b) (by omega) s5.gb).step (b := b) (by omega) (gb_of_below (by go_grown) b)
  have hcl : cs.length = l.length := R.len
  obtain ⟨v6, w6, hrun6, hown6, hgrow6, _⟩ := run_append_own (P := Tryd.prog) (w := X5.alloc (.cells c5.cells 31)) B 29 29 31 i0 _ 6 72 Tryd.underlying29 hi0 hz0 hz1 hz2 rfl (by decide) (.slice a N m) cs.length _ R5.own ⟨X5.heap.size, 0, none⟩ 1 1 c5.cells.toList rfl (nd_cells _ _) (nd_one _) (by unfold maxLen; omega) (by omega) (by simp; omega)
  have hblk := append_block (P := Tryd.prog) (w := X5.alloc (.cells c5.cells 31)) B 29 29 31 i0 _ 6 72 Tryd.underlying29 hi0 hz0 hz1 hz2 (.slice a N m) cs.length _ R5.own ⟨X5.heap.size, 0, none⟩ 1 1 c5.cells.toList (by omega) rfl (nd_cells _ _) (nd_one _) (by unfold maxLen; omega) (by omega) hrun6
  have hb9 : ∀ x, (Value.slice a N m).ownBlock = some x → x < X.heap.size := fun x hx => (own_lt' R.own hx).1
  have R6 : Rw w6 B v6 (l ++ [n]) (cs ++ [c5]) := R5.app hown6 hgrow6 hblk (nd5.keep (fun y hy hl => ⟨by omega, fun e => by have := hb9 y e; omega⟩) (by simp) (fun y hy hl => ((Below.refl _ _).alloc (Nat.le_refl _) _).block y hl))
  have far : ∀ x, x < B → some x ≠ (Value.slice a N m).ownBlock := fun x hx e => by have := (own_lt' R5.own e.symm).2; omega
  have S6 : St w w6 b g cap L j5 o := ((h.st.next s5).alloc _).grow2 bl gl (by omega) R5.own hgrow6
  have row6 : rowAt w6 q = some (⟨k, bs t, 0, fl, a, N, m, (p : Int)⟩ : Nc).cells := by
    have : rowAt w6 q = rowAt (X5.alloc (.cells c5.cells 31)) q := by unfold rowAt; rw [hgrow6.block q (by simp; omega) (far q hqB)]
    rw [this, rowAt_old _ _ _ (by omega)]
    exact (s5.row (by omega) (by omega)).trans h.row
  have room6 : ∀ x, x < B → w.heap.size ≤ x → roomAt X x 6 = true → roomAt w6 x 6 = true := fun x h1 h2 h3 => (room_gbo hgrow6 (by simp; omega) (far x h1) 6).trans ((roomAt_old _ _ _ _ (by omega)).trans ((s5.room (by omega) (by omega) 6).trans h3))
  have hz6 := hgrow6.size
  simp at hz6
  rcases hown6.2 with ⟨_, hz⟩ | ⟨g2, cp, cur, rfl, h1, h2, h3⟩
  · omega
  · have hq6 : q ≠ g2 := by omega
    have rm := room6 q hqB hhq h.room
    refine ⟨g2, cs.length + 1, cp, w6, hrun6, row6, by have h4 := (room_there rm 4 (by omega)).2; rwa [Nat.zero_add] at h4, ⟨S6.far bl gl _ 4 hhq _, rowAt_set _ _ _ _ _ row6, room_set rm _ _, (roomAt_far _ _ _ _ _ (by show r ≠ q; exact fun e => h.qr e.symm)).trans (room6 r hrB hhr h.res), ⟨_, R6.step (b := q) hqB (gb_set (gb_of_below (Below.refl _ _) q))⟩, hhq, hhr, h.qr, hqB, hrB, by simp; omega, by simp; omega⟩⟩
/-- A new node. -/
theorem FN.new {c : Nc} (S : St w X b g cap L j o) (hm : roomAt X r 6 = true) (hr : w.heap.size ≤ r) (hl : r < X.heap.size) (hc : c = ⟨k, bs t, 0, fl, none, 0, 0, (p : Int)⟩) : FN w (X.alloc (.cells c.cells 31)) b g cap L j o r X.heap.size (X.heap.size + 1) k t fl p none 0 0 [] := by
  subst hc
  exact {
    st := S.alloc _
    row := rowAt_at _ _ _ _ _ rfl
    room := roomNd_new _ _ _ _ rfl
    res := (roomAt_old _ _ _ _ hl).trans hm
    rws := ⟨[], rfl, ⟨rfl, .inl ⟨rfl, rfl⟩⟩, fun j h => absurd h (by simp)⟩
    hq := S.size
    hr := hr
    qr := by omega
    qB := by omega
    rB := by omega
    BX := by simp
    len := by simp }
theorem FN.text (h : FN w X b g cap L j o r q B k t fl p a N m l) (bl : b < w.heap.size) (gl : g < w.heap.size) (t' : Bs) : FN w (X.setCell ⟨q, 1, none⟩ (.string (bs t'))) b g cap L j o r q B k t' fl p a N m l where
  st := h.st.far bl gl _ 1 h.hq _
  row := rowAt_set _ _ _ _ _ h.row
  room := room_set h.room _ _
  res := (roomAt_far _ _ _ _ _ (by show r ≠ q; exact fun e => h.qr e.symm)).trans h.res
  rws := h.rws.imp fun cs R => R.step (b := q) h.qB (gb_set (gb_of_below (Below.refl _ _) q))
  hq := h.hq
  hr := h.hr
  qr := h.qr
  qB := h.qB
  rB := h.rB
  BX := by simpa using h.BX
  len := h.len
theorem FN.place (h : FN w X b g cap L j o r q B k t fl p a N m l) (bl : b < w.heap.size) (gl : g < w.heap.size) (p' : Nat) : FN w (X.setCell ⟨q, 5, none⟩ (.int .i64 (p' : Int))) b g cap L j o r q B k t fl p' a N m l where
  st := h.st.far bl gl _ 5 h.hq _
  row := rowAt_set _ _ _ _ _ h.row
  room := room_set h.room _ _
  res := (roomAt_far _ _ _ _ _ (by show r ≠ q; exact fun e => h.qr e.symm)).trans h.res
  rws := h.rws.imp fun cs R => R.step (b := q) h.qB (gb_set (gb_of_below (Below.refl _ _) q))
  hq := h.hq
  hr := h.hr
  qr := h.qr
  qB := h.qB
  rB := h.rB
  BX := by simpa using h.BX
  len := h.len
theorem Rw.mono {B' : Nat} {v : Value} {cs : List Nc} (h : Rw X B' v l cs) (hB : B ≤ B') : Rw X B v l cs :=
  ⟨h.len, own_mono h.own hB, fun j h1 h2 => (h.nds j h1 h2).keep (fun x hx _ => ⟨by have := hx.1; omega, hx.2⟩) (Nat.le_refl _) (fun _ _ _ => rfl)⟩
/-- A row as the kids. -/
theorem FN.kids {a' : Option Addr} {N' m' : Nat} {l' : List Nd} {cs : List Nc} (h : FN w X b g cap L j o r q B k t fl p a N m l) (bl : b < w.heap.size) (gl : g < w.heap.size) (R : Rw X B (.slice a' N' m') l' cs) (hl : l'.length ≤ j) : FN w (X.setCell ⟨q, 4, none⟩ (.slice a' N' m')) b g cap L j o r q B k t fl p a' N' m' l' where
  st := h.st.far bl gl _ 4 h.hq _
  row := rowAt_set _ _ _ _ _ h.row
  room := room_set h.room _ _
  res := (roomAt_far _ _ _ _ _ (by show r ≠ q; exact fun e => h.qr e.symm)).trans h.res
  rws := ⟨_, R.step (b := q) h.qB (gb_set (gb_of_below (Below.refl _ _) q))⟩
  hq := h.hq
  hr := h.hr
  qr := h.qr
  qB := h.qB
  rB := h.rB
  BX := by simpa using h.BX
  len := hl
theorem FN.nd (h : FN w X b g cap L j o r q B k t fl p a N m l) : NdAt X (fun x => B ≤ x) ⟨k, bs t, 0, fl, a, N, m, (p : Int)⟩ (.mk k t 0 fl l p) := by
  have hN := h.num
  subst hN
  obtain ⟨cs, R⟩ := h.rws
  refine NdAt.mk k t 0 fl l p a m ?_
  rcases R.own.2 with ⟨e, h0⟩ | ⟨g2, cp, cur, e, h1⟩
  · have : l = [] := by rw [R.len] at h0; simpa using h0
    subst this
    exact KidsAt.nil _ _
  · injection e with e1 e2 e3
    subst e1
    have := kids_from R l.length 0 rfl (Nat.zero_le _)
    rwa [List.drop_zero] at this
theorem FN.fin {i : Nat} (h : FN w X b g cap L j o r q B k t fl p a N m l) (bl : b < w.heap.size) (gl : g < w.heap.size) (hi : i < j) : PostN w b g cap L i o (.ok (.mk k t 0 fl l p) (L.drop j)) (.returned (.agg (⟨k, bs t, 0, fl, a, N, m, (p : Int)⟩ : Nc).cells)) (putRow X r (⟨k, bs t, 0, fl, a, N, m, (p : Int)⟩ : Nc).cells) :=
  ⟨_, j, rfl, rfl, hi, h.st.old bl gl _ h.hr _, h.nd.keep (fun x hx _ => by have := h.hq; have := h.qB; omega) (by rw [size_put]; exact Nat.le_refl _) (fun x hx _ => put_far _ _ _ _ (by have := h.rB; omega))⟩
end
end Go.Proofs.YtllhcjmabhempaaDoor

namespace Go.Proofs.YtllhcjmabhempaaDoor
set_option linter.unusedVariables false
set_option linter.unusedSimpArgs false
open Go.ChangeShapes Go.WideShapes Go.ChangeAt Go.RowKit


attribute [local go_sem] fieldTk0 fieldTk1 fieldTk3 hmf

/-- What follows a record's base. -/
def recT (f o p : Nat) (z : Bs) (s : List Tok) : Rs Nd := (if wd s = [69, 78, 68] then .ok (lst []) s else rowR [59] (typedR 14 (namedR 9) (runY f .type (o + 1))) (s.length + 1) [] s).bind fun l u => (mustR [69, 78, 68] u).bind fun _ v => .ok (.mk 13 z 0 false l.kids p) v
def recR (f o : Nat) (t : List Tok) : Rs Nd := (beginR o t).bind fun x r => (if wd r = [40] then (nameR r.tail).bind fun z s => (mustR [41] s).bind fun _ u => .ok z u else .ok ⟨0, [], 0, 0⟩ r).bind fun z s => recT f o x.p z.t s
theorem rec_eq (f o : Nat) (t : List Tok) (h1 : wd t = [82, 69, 67, 79, 82, 68]) : runY (f + 1) .type o t = recR f o t := by
  rw [runY, if_neg (by rw [h1]; decide), if_pos h1]; rfl
set_option maxHeartbeats 8000000 in
set_option maxRecDepth 20000 in
theorem record_step (f : Nat) (hT : PyT f) (w : World) (b g cap : Nat) (L : List Tok) (i o : Nat) (h : RdAt w b g cap L i o) (hk0 : (hd (L.drop i)).k ≠ 0) (hf : (L.length - i) * 4 + 1 ≤ f) : Calls Tryd.prog 66 #[.pointer (some ⟨b, 0, none⟩)] w (PostN w b g cap L i o (recR f o (L.drop i))) := by
  have bl := h.bl
  have gl := h.gl
  have hil := h.il
  have hol := h.ol
  have H : Hid (RdAt w b g cap L i o) := h
  unfold recR beginR
  by_cases ho : o = 24
  · subst ho
    rw [if_pos rfl, Rs.bind_bad]
    have BN : Hid (∀ X, RdAt X b g cap L i 24 → Calls Tryd.prog 76 #[.pointer (some ⟨b, 0, none⟩)] X _) := fun X hX => begin_no X b g cap L i hX
    clear h hT
    generalize (hd (L.drop i)).p = p at BN ⊢
    go_enter Tryd.func66, Tryd.ntmps66
    go_wp2_with (go_at_call 76; refine (BN.out _ (H.out.alloc _)).mono ?_; rintro e w2 ⟨he, g2⟩; unfold gaveUp at he; subst he)
    exact ⟨rfl, rfl, gb_trans ((St.refl H.out).alloc _).gb g2⟩
  · rw [if_neg ho, Rs.bind_ok, List.tail_drop]
    have BY : Hid (∀ X, RdAt X b g cap L i o → Calls Tryd.prog 76 #[.pointer (some ⟨b, 0, none⟩)] X _) := fun X hX => begin_yes X b g cap L i o hX (by omega) hk0
    have hn : i + 1 < L.length := h.last i h.il (by rw [← h.hd]; exact hk0)
    have RO : Hid (∀ X j, i < j → RdAt X b g cap L j (o + 1) → Calls Tryd.prog 33 #[.pointer (some ⟨b, 0, none⟩), .string (bs [59]), .func (.func 78) #[.pointer (some ⟨b, 0, none⟩)] #[]] X (PostL X b g cap L j (o + 1) (rowR [59] (typedR 14 (namedR 9) (runY f .type (o + 1))) ((L.drop j).length + 1) [] (L.drop j)))) := fun X j hj hX =>
      row_fields (typedR 14 (namedR 9) (runY f .type (o + 1))) (L.drop j).length X b g cap L j (o + 1) [59] (by decide) hX (by rw [List.length_drop]; omega) (fun Y j2 hj2 hY => fields_of (runY f .type (o + 1)) Y b g cap L j2 (o + 1) hY (fun Z j3 hj3 hZ => hT Z b g cap L j3 (o + 1) hZ (by omega)))
    clear h hT hf hk0
    generalize hd (L.drop i) = tk at BY ⊢
    generalize hR : ((if wd (L.drop (i + 1)) = [40] then (nameR (L.drop (i + 1)).tail).bind fun z s => (mustR [41] s).bind fun _ u => Rs.ok z u else Rs.ok ⟨0, [], 0, 0⟩ (L.drop (i + 1))).bind fun z s => recT f o tk.p z.t s) = R
    have HR : Hid (((if wd (L.drop (i + 1)) = [40] then (nameR (L.drop (i + 1)).tail).bind fun z s => (mustR [41] s).bind fun _ u => Rs.ok z u else Rs.ok ⟨0, [], 0, 0⟩ (L.drop (i + 1))).bind fun z s => recT f o tk.p z.t s) = R) := hR
    clear hR
    go_enter Tryd.func66, Tryd.ntmps66
    go_wp2_with (first
      | (go_at_call 76; refine (BY.out _ (H.out.alloc _)).mono ?_; rintro e w1 ⟨rfl, s1⟩; have hs1 := s1.size; simp at hs1; have B1 : Hid (St w w1 b g cap L (i + 1) (o + 1)) := ((St.refl H.out).alloc _).next s1; have m1 : roomAt w1 w.heap.size 6 = true := (s1.room (by simp) (by omega) 6).trans (roomNd_new _ _ _ _ (by simp)))
      | (go_at_call 59; refine (node_any _ _ _ _ _ _).mono ?_; rintro e w2 ⟨rfl, hb2⟩; have hs2 := hb2.size; obtain ⟨q, hq⟩ : ∃ q, q = w2.heap.size := ⟨_, rfl⟩; have A2 : Hid (FN w (w2.alloc (.cells (⟨13, ⟨#[]⟩, 0, false, none, 0, 0, (tk.p : Int)⟩ : Nc).cells 31)) b g cap L (i + 1) (o + 1) w.heap.size w2.heap.size (w2.heap.size + 1) 13 [] false tk.p none 0 0 []) := FN.new (B1.out.below hb2) ((roomAt_below hb2 _ _ (by omega)).trans m1) (Nat.le_refl _) (by omega) rfl)
      | (go_at_call 32; by_cases hw : wd (L.drop (i + 1)) = [40] <;> first
          | (refine (found_yes _ b g cap L (i + 1) (o + 1) A2.out.st.rd [40] (by decide) hw).mono ?_; rintro e w3 ⟨rfl, s3⟩; have A3 : Hid (FN w w3 b g cap L (i + 1 + 1) (o + 1) w.heap.size w2.heap.size (w2.heap.size + 1) 13 [] false tk.p none 0 0 []) := A2.out.step bl s3 (by omega); have W3 : Hid (wd (L.drop (i + 1)) = [40]) := hw; clear hw)
          | (refine (found_no _ b g cap L (i + 1) (o + 1) A2.out.st.rd [40] hw).mono ?_; rintro e w3 ⟨rfl, hb3⟩; obtain ⟨j5, z5, A5⟩ : ∃ j5 z5, Hid (FN w w3 b g cap L j5 (o + 1) w.heap.size w2.heap.size (w2.heap.size + 1) 13 z5 false tk.p none 0 0 [] ∧ i < j5 ∧ recT f o tk.p z5 (L.drop j5) = R) := ⟨i + 1, [], A2.out.below bl hb3, by omega, by rw [← HR.out, if_neg hw, Rs.bind_ok]⟩; clear hw))
      | (go_at_call 53; refine (name_any _ b g cap L (i + 1 + 1) (o + 1) A3.out.st.rd).mono ?_; intro e w4 hP; rcases postT_or hP with ⟨x4, u4, hn4, rfl, ht4, s4⟩ | ⟨p4, er4, hn4, he, g4⟩ <;> first
          | (have hs4 := s4.size; have e4 : x4.tk.t = bs x4.t := rfl; have A4 : Hid (FN w w4 b g cap L (i + 1 + 1 + 1) (o + 1) w.heap.size w2.heap.size (w2.heap.size + 1) 13 [] false tk.p none 0 0 []) := A3.out.step bl s4 (by omega); have c4 := rowAt_cell A4.out.row; have f4 := A4.out.fz 1 (by omega))
          | (unfold gaveUp at he; subst he))
      | (go_at_call 30; have hx := A4; clear hx; refine (must_any _ b g cap L (i + 1 + 1 + 1) (o + 1) (A4.out.text bl gl x4.t).st.rd [41] (by decide)).mono ?_; intro e w5 hP; rcases postT_or hP with ⟨x5, u5, hm5, rfl, ht5, s5⟩ | ⟨p5, er5, hm5, he, g5⟩ <;> first
          | (have hs5 := s5.size; obtain ⟨j5, z5, A5⟩ : ∃ j5 z5, Hid (FN w w5 b g cap L j5 (o + 1) w.heap.size w2.heap.size (w2.heap.size + 1) 13 z5 false tk.p none 0 0 [] ∧ i < j5 ∧ recT f o tk.p z5 (L.drop j5) = R) := ⟨i + 1 + 1 + 1 + 1, x4.t, (A4.out.text bl gl x4.t).step bl s5 (by omega), by omega, by rw [← HR.out, if_pos W3.out, List.tail_drop, hn4, Rs.bind_ok, ht4, hm5, Rs.bind_ok, Rs.bind_ok, ht5]⟩; clear A4)
          | (unfold gaveUp at he; subst he))
      | (go_at_call 39; refine (word_any _ b g cap L j5 (o + 1) A5.out.1.st.rd).mono ?_; rintro e w6 ⟨rfl, hb6⟩; have A6 : Hid (FN w w6 b g cap L j5 (o + 1) w.heap.size w2.heap.size (w2.heap.size + 1) 13 z5 false tk.p none 0 0 []) := A5.out.1.below bl hb6; have k6 := rk (wd (L.drop j5)); by_cases hw : wd (L.drop j5) = [69, 78, 68] <;> first
          | (have d6 : decide (wd (L.drop j5) = [69, 78, 68]) = true := (by simpa using hw); obtain ⟨j7, l7, a7, N7, m7, A7⟩ : ∃ j7 l7 a7 N7 m7, Hid (FN w w6 b g cap L j7 (o + 1) w.heap.size w2.heap.size (w2.heap.size + 1) 13 z5 false tk.p a7 N7 m7 l7 ∧ i < j7 ∧ ((mustR [69, 78, 68] (L.drop j7)).bind fun _ v => Rs.ok (Nd.mk 13 z5 0 false l7 tk.p) v) = R) := ⟨j5, [], none, 0, 0, A6.out, A5.out.2.1, by rw [← A5.out.2.2]; unfold recT; rw [if_pos hw, Rs.bind_ok]; rfl⟩; clear hw A6)
          | (have d6 : decide (wd (L.drop j5) = [69, 78, 68]) = false := (by simpa using hw); have W6 : Hid (¬ wd (L.drop j5) = [69, 78, 68]) := hw; clear hw))
      | (go_at_call 33; refine (RO.out _ j5 A5.out.2.1 A6.out.st.rd).mono ?_; intro e w7 hP; rcases postL_or hP with ⟨n7, t7, g7, m7, i7, cs7, N7, hl7, rfl, ht7, hi7, s7, ks7, hg7, hg8, R7, hl0, hlj, hN7⟩ | ⟨p7, er7, hl7, he, g7⟩ <;> first
          | (have hs7 := s7.size; have B7 : FN w w7 b g cap L i7 (o + 1) w.heap.size w2.heap.size (w2.heap.size + 1) 13 z5 false tk.p none 0 0 [] := A6.out.step bl s7 (by omega); have c7 := rowAt_cell B7.row; have f7 := B7.fz 4 (by omega); have e7 := hN7.out; obtain ⟨j7, l7, a7, A7⟩ : ∃ j7 l7 a7, Hid (FN w (w7.setCell ⟨w2.heap.size, 4, none⟩ (.slice (some ⟨g7, 0, none⟩) N7 m7)) b g cap L j7 (o + 1) w.heap.size w2.heap.size (w2.heap.size + 1) 13 z5 false tk.p a7 N7 m7 l7 ∧ i < j7 ∧ ((mustR [69, 78, 68] (L.drop j7)).bind fun _ v => Rs.ok (Nd.mk 13 z5 0 false l7 tk.p) v) = R) := ⟨i7, n7.kids, some ⟨g7, 0, none⟩, (by rw [e7]; exact B7.kids bl gl (R7.mono (by have := A6.out.BX; omega)) hlj), (by have := A5.out.2.1; omega), by rw [← A5.out.2.2]; unfold recT; rw [if_neg W6.out, hl7, Rs.bind_ok, ht7]⟩; clear A6 B7 R7 ks7 s7 hP hl7 ht7 hi7 hg7 hg8 hl0 hlj hN7 e7)
          | (unfold gaveUp at he; subst he))
      | (go_at_call 30; have hx := A7; clear hx; refine (must_any _ b g cap L j7 (o + 1) A7.out.1.st.rd [69, 78, 68] (by decide)).mono ?_; intro e w8 hP; rcases postT_or hP with ⟨x8, u8, hm8, rfl, ht8, s8⟩ | ⟨p8, er8, hm8, he, g8⟩ <;> first
          | (have hs8 := s8.size; have A8 : Hid (FN w w8 b g cap L (j7 + 1) (o + 1) w.heap.size w2.heap.size (w2.heap.size + 1) 13 z5 false tk.p a7 N7 m7 l7 ∧ Rs.ok (Nd.mk 13 z5 0 false l7 tk.p) (L.drop (j7 + 1)) = R) := ⟨A7.out.1.step bl s8 (by omega), by rw [← A7.out.2.2, hm8, Rs.bind_ok, ht8]⟩; clear hP hm8 ht8 s8)
          | (unfold gaveUp at he; subst he))
      | (go_at_call 77; refine (end_any _ b g cap L (j7 + 1) o A8.out.1.st.rd).mono ?_; rintro e w9 ⟨rfl, s9⟩; have A9 : FN w w9 b g cap L (j7 + 1) o w.heap.size w2.heap.size (w2.heap.size + 1) 13 z5 false tk.p a7 N7 m7 l7 := A8.out.1.step bl s9 (Nat.le_refl _); have r9 := A9.row; have m9 := A9.res; have H9 : Hid (FN w w9 b g cap L (j7 + 1) o w.heap.size w2.heap.size (w2.heap.size + 1) 13 z5 false tk.p a7 N7 m7 l7) := A9; clear A9))
    all_goals first
      | (rw [← HR.out, if_pos W3.out, List.tail_drop, hn4, Rs.bind_bad, Rs.bind_bad]; exact ⟨rfl, rfl, gb_trans A3.out.st.gb g4⟩)
      | (rw [← HR.out, if_pos W3.out, List.tail_drop, hn4, Rs.bind_ok, ht4, hm5, Rs.bind_bad, Rs.bind_bad]; exact ⟨rfl, rfl, gb_trans (A4.out.text bl gl x4.t).st.gb g5⟩)
      | (rw [← A5.out.2.2]; unfold recT; rw [if_neg W6.out, hl7, Rs.bind_bad]; exact ⟨rfl, rfl, gb_trans A6.out.st.gb g7⟩)
      | (rw [← A7.out.2.2, hm8, Rs.bind_bad]; exact ⟨rfl, rfl, gb_trans A7.out.1.st.gb g8⟩)
      | (rw [← A8.out.2]; exact ret_cell1 rfl rfl (loadNd_row (rowNd_put _ _ _ m9)) rfl (H9.out.fin bl gl (by have := A7.out.2.1; omega)))
end Go.Proofs.YtllhcjmabhempaaDoor

namespace Go.Proofs.YtllhcjmabhempaaDoor
set_option linter.unusedVariables false
set_option linter.unusedSimpArgs false
open Go.ChangeShapes Go.WideShapes Go.ChangeAt Go.RowKit


attribute [local go_sem] fieldTk0 fieldTk1 fieldTk3 hmf
attribute [local go_sem ↓] bslNd_seal
attribute [local go_sem] bslNd1_run bslNd2_run

set_option maxHeartbeats 8000000 in
set_option maxRecDepth 20000 in
theorem type_step (f : Nat) (hA : PyA f) (hT : PyT f) : PyT (f + 1) := by
  intro w b g cap L i o h hf
  have bl := h.bl
  have gl := h.gl
  have hil := h.il
  have hol := h.ol
  have H : Hid (RdAt w b g cap L i o) := h
  have WA : Hid (∀ X, RdAt X b g cap L i o → Calls Tryd.prog 39 #[.pointer (some ⟨b, 0, none⟩)] X _) := fun X hX => word_any X b g cap L i o hX
  have HE : Hid (∀ X, RdAt X b g cap L i o → Calls Tryd.prog 28 #[.pointer (some ⟨b, 0, none⟩)] X _) := fun X hX => here_any X b g cap L i o hX
  have PA : Hid ((hd (L.drop i)).k ≠ 0 → ∀ X, RdAt X b g cap L i o → Calls Tryd.prog 52 #[.pointer (some ⟨b, 0, none⟩)] X _) := fun hk0 X hX => pass_any X b g cap L i o hX hk0
  have AR : Hid (wd (L.drop i) = [65, 82, 82, 65, 89] → ∀ X, RdAt X b g cap L i o → Calls Tryd.prog 65 #[.pointer (some ⟨b, 0, none⟩), .int .i64 ((hd (L.drop i)).p : Int)] X (PostN X b g cap L i o (runY (f + 1) .type o (L.drop i)))) := fun hw X hX => by
    rw [runY, if_pos hw]
    exact hA X b g cap L i o _ hX (wd_kind (by rw [hw]; decide)) (by omega)
  have RE : Hid (wd (L.drop i) = [82, 69, 67, 79, 82, 68] → ∀ X, RdAt X b g cap L i o → Calls Tryd.prog 66 #[.pointer (some ⟨b, 0, none⟩)] X (PostN X b g cap L i o (runY (f + 1) .type o (L.drop i)))) := fun hw X hX => by
    rw [rec_eq f o _ hw]
    exact record_step f hT X b g cap L i o hX (wd_kind (by rw [hw]; decide)) (by omega)
  have RP : Hid (wd (L.drop i) = [80, 79, 73, 78, 84, 69, 82] → runY (f + 1) .type o (L.drop i) = (mustR [84, 79] (L.drop (i + 1))).bind fun _ r => (namedR 10 r).bind fun y s => .ok (.mk 15 [] 0 false [y] (hd (L.drop i)).p) s) := fun hw => by
    rw [runY, if_neg (by rw [hw]; decide), if_neg (by rw [hw]; decide), if_pos hw, List.tail_drop]
  have RN : Hid (wd (L.drop i) ≠ [65, 82, 82, 65, 89] → wd (L.drop i) ≠ [82, 69, 67, 79, 82, 68] → wd (L.drop i) ≠ [80, 79, 73, 78, 84, 69, 82] → runY (f + 1) .type o (L.drop i) = namedR 10 (L.drop i)) := fun h1 h2 h3 => by
    rw [runY, if_neg h1, if_neg h2, if_neg h3]
  have k := rk (wd (L.drop i))
  generalize runY (f + 1) .type o (L.drop i) = R at AR RE RP RN ⊢
  clear h hf hA hT
  go_enter Tryd.func55, Tryd.ntmps55
  go_wp2_with (first
    | (go_at_call 39; refine (WA.out _ (H.out.alloc _)).mono ?_; rintro e w1 ⟨rfl, hb1⟩; have hs1 := hb1.size; simp at hs1; have B1 : Hid (St w w1 b g cap L i o) := ((St.refl H.out).alloc _).below hb1; have m1 : roomAt w1 w.heap.size 6 = true := (roomAt_below hb1 _ _ (by simp)).trans (roomNd_new _ _ _ _ (by simp)); by_cases h1 : wd (L.drop i) = [65, 82, 82, 65, 89] <;> first
        | (have d1 : decide (wd (L.drop i) = [65, 82, 82, 65, 89]) = true := (by simpa using h1); have W1 : Hid (wd (L.drop i) = [65, 82, 82, 65, 89]) := h1; clear h1)
        | (have d1 : decide (wd (L.drop i) = [65, 82, 82, 65, 89]) = false := (by simpa using h1); have W1 : Hid (¬ wd (L.drop i) = [65, 82, 82, 65, 89]) := h1; clear h1; by_cases h1 : wd (L.drop i) = [82, 69, 67, 79, 82, 68] <;> first
            | (have d2 : decide (wd (L.drop i) = [82, 69, 67, 79, 82, 68]) = true := (by simpa using h1); have W2 : Hid (wd (L.drop i) = [82, 69, 67, 79, 82, 68]) := h1; clear h1)
            | (have d2 : decide (wd (L.drop i) = [82, 69, 67, 79, 82, 68]) = false := (by simpa using h1); have W2 : Hid (¬ wd (L.drop i) = [82, 69, 67, 79, 82, 68]) := h1; clear h1; by_cases h1 : wd (L.drop i) = [80, 79, 73, 78, 84, 69, 82] <;> first
                | (have d3 : decide (wd (L.drop i) = [80, 79, 73, 78, 84, 69, 82]) = true := (by simpa using h1); have W3 : Hid (wd (L.drop i) = [80, 79, 73, 78, 84, 69, 82]) := h1; clear h1)
                | (have d3 : decide (wd (L.drop i) = [80, 79, 73, 78, 84, 69, 82]) = false := (by simpa using h1); have W3 : Hid (¬ wd (L.drop i) = [80, 79, 73, 78, 84, 69, 82]) := h1; clear h1))))
    | (go_at_call 28; refine (HE.out _ B1.out.rd).mono ?_; rintro e w2 ⟨rfl, hb2⟩; have hs2 := hb2.size; have B2 : Hid (St w w2 b g cap L i o) := B1.out.below hb2; have m2 : roomAt w2 w.heap.size 6 = true := (roomAt_below hb2 _ _ (by omega)).trans m1; have e2 : (hd (L.drop i)).tk.p = ((hd (L.drop i)).p : Int) := rfl)
    | (go_at_call 65; refine (AR.out W1.out _ B2.out.rd).mono ?_; intro e w3 hP; rcases postN_or hP with ⟨n3, t3, c3, i3, hy, rfl, ht3, hi3, s3, nd3⟩ | ⟨p3, er, hy, he, g3⟩ <;> first
        | (have hs3 := s3.size; have m3 : roomAt w3 w.heap.size 6 = true := (s3.room (by omega) (by omega) 6).trans m2; have S3 : St w w3 b g cap L i3 o := B2.out.next s3; have N3 : NdAt w3 (fun x => w.heap.size + 1 ≤ x) c3 n3 := nd3.mono (by omega))
        | (unfold gaveUp at he; subst he; have G3 := gb_trans B2.out.gb g3))
    | (go_at_call 66; refine (RE.out W2.out _ B1.out.rd).mono ?_; intro e w3 hP; rcases postN_or hP with ⟨n3, t3, c3, i3, hy, rfl, ht3, hi3, s3, nd3⟩ | ⟨p3, er, hy, he, g3⟩ <;> first
        | (have hs3 := s3.size; have m3 : roomAt w3 w.heap.size 6 = true := (s3.room (by omega) (by omega) 6).trans m1; have S3 : St w w3 b g cap L i3 o := B1.out.next s3; have N3 : NdAt w3 (fun x => w.heap.size + 1 ≤ x) c3 n3 := nd3.mono (by omega))
        | (unfold gaveUp at he; subst he; have G3 := gb_trans B1.out.gb g3))
    | (go_at_call 52; refine (PA.out (wd_kind (by rw [W3.out]; decide)) _ B1.out.rd).mono ?_; rintro e w4 ⟨rfl, s4⟩; have hs4 := s4.size; have B4 : Hid (St w w4 b g cap L (i + 1) o) := B1.out.next s4; have m4 : roomAt w4 w.heap.size 6 = true := (s4.room (by omega) (by omega) 6).trans m1; have e4 : (hd (L.drop i)).tk.p = ((hd (L.drop i)).p : Int) := rfl)
    | (go_at_call 30; refine (must_any _ b g cap L (i + 1) o B4.out.rd [84, 79] (by decide)).mono ?_; intro e w5 hP; rcases postT_or hP with ⟨x5, u5, hm5, rfl, ht5, s5⟩ | ⟨p5, er5, hm5, he, g5⟩ <;> first
        | (have hs5 := s5.size; have B5 : Hid (St w w5 b g cap L (i + 1 + 1) o) := B4.out.next s5; have m5 : roomAt w5 w.heap.size 6 = true := (s5.room (by omega) (by omega) 6).trans m4)
        | (unfold gaveUp at he; subst he; have G5 := gb_trans B4.out.gb g5))
    | (go_at_call 67; have hx := B5; clear hx; refine (typeName_any _ b g cap L (i + 1 + 1) o B5.out.rd).mono ?_; intro e w6 hP; rcases postN_or hP with ⟨n6, t6, c6, i6, hy, rfl, ht6, hi6, s6, nd6⟩ | ⟨p6, er, hy, he, g6⟩ <;> first
        | (have hs6 := s6.size; have m6 : roomAt w6 w.heap.size 6 = true := (s6.room (by omega) (by omega) 6).trans m5; have S6 : St w w6 b g cap L i6 o := B5.out.next s6; have N6 : NdAt w6 (fun x => w.heap.size + 1 ≤ x) c6 n6 := nd6.mono (by omega))
        | (unfold gaveUp at he; subst he; have G6 := gb_trans B5.out.gb g6))
    | (go_at_call 67; refine (typeName_any _ b g cap L i o B1.out.rd).mono ?_; intro e w3 hP; rw [← RN.out W1.out W2.out W3.out] at hP; rcases postN_or hP with ⟨n3, t3, c3, i3, hy, rfl, ht3, hi3, s3, nd3⟩ | ⟨p3, er, hy, he, g3⟩ <;> first
        | (have hs3 := s3.size; have m3 : roomAt w3 w.heap.size 6 = true := (s3.room (by omega) (by omega) 6).trans m1; have S3 : St w w3 b g cap L i3 o := B1.out.next s3; have N3 : NdAt w3 (fun x => w.heap.size + 1 ≤ x) c3 n3 := nd3.mono (by omega))
        | (unfold gaveUp at he; subst he; have G3 := gb_trans B1.out.gb g3))
    | (go_at_call 59; refine (node_any _ _ _ _ _ _).mono ?_; rintro e w7 ⟨rfl, hb7⟩; have hs7 := hb7.size; simp at hs7; have m7 : roomAt w7 w.heap.size 6 = true := (roomAt_below hb7 _ _ (by simp; omega)).trans ((roomAt_old _ _ _ _ (by omega)).trans m6)))
  all_goals first
    | ((try rw [hy]); exact ⟨rfl, rfl, G3⟩)
    | (rw [RP.out W3.out, hm5, Rs.bind_bad]; exact ⟨rfl, rfl, G5⟩)
    | (rw [RP.out W3.out, hm5, Rs.bind_ok, ht5, hy, Rs.bind_bad]; exact ⟨rfl, rfl, G6⟩)
    | ((try rw [hy]); exact ret_cell1 rfl rfl (loadNd_row (rowNd_put _ _ _ m3)) rfl (fin_post S3 bl gl hi3 ht3 N3))
    | (have mb : w7.heap[w6.heap.size]? = some (.cells c6.cells 31 (0, 0)) := (hb7.block _ (by simp)).trans (heap_new' _ _ rfl)
       have S7 : St w w7 b g cap L i6 o := (S6.alloc _).below hb7
       have n1 : NdAt w7 (fun x => w.heap.size + 1 ≤ x) c6 n6 := NdAt.stepP (b := b) N6 (fun x hx => by omega) (gb_trans (gb_of_below (by go_grown) b) (gb_of_below hb7 b))
       rw [RP.out W3.out, hm5, Rs.bind_ok, ht5, hy, Rs.bind_ok]
       exact ret_cell1 rfl rfl (loadNd_row (rowNd_put _ _ _ m7)) rfl (fin_post (i := i) S7 bl gl (by omega) ht6 (one_made 15 [] _ (by omega) mb n1)))
/-- All types. -/
theorem types_all : ∀ f, PyA f ∧ PyT f := by
  intro f
  induction f with
  | zero => exact ⟨fun w b g cap L i o p h hk hf => by omega, fun w b g cap L i o h hf => by omega⟩
  | succ f ih => exact ⟨array_step f ih.1 ih.2, type_step f ih.1 ih.2⟩
theorem typeNode_any (w : World) (b g cap : Nat) (L : List Tok) (i o : Nat) (h : RdAt w b g cap L i o) : Calls Tryd.prog 55 #[.pointer (some ⟨b, 0, none⟩)] w (PostN w b g cap L i o (typeR o (L.drop i))) := by
  unfold typeR
  exact (types_all _).2 w b g cap L i o h (by rw [List.length_drop]; omega)
theorem typeNamed_any (w : World) (b g cap : Nat) (L : List Tok) (i o : Nat) (h : RdAt w b g cap L i o) : Calls Tryd.prog 37 #[.pointer (some ⟨b, 0, none⟩)] w (PostN w b g cap L i o (tnameR o (L.drop i))) :=
  typeNamed_of (typeR o) w b g cap L i o h (fun X j _ hX => typeNode_any X b g cap L j o hX)
theorem variables_any (w : World) (b g cap : Nat) (L : List Tok) (i o : Nat) (h : RdAt w b g cap L i o) : Calls Tryd.prog 38 #[.pointer (some ⟨b, 0, none⟩)] w (PostN w b g cap L i o (varsR o (L.drop i))) :=
  variables_of (typeR o) w b g cap L i o h (fun X j _ hX => typeNode_any X b g cap L j o hX)
end Go.Proofs.YtllhcjmabhempaaDoor
