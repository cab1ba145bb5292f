/-
  Layer 9: the contract of blocks; repeat.
  Layer 9: blocks.
  Layer 9: WHILE.
  Layer 9: IF.
-/
import Derived.Test.YtllhcjmabhempaaDoorMTyp
import Derived.Deep.DeepCutAuto
namespace Go.Proofs.YtllhcjmabhempaaDoor
set_option linter.unusedVariables false
set_option linter.unusedSimpArgs false
open Go.ChangeShapes Go.WideShapes Go.ChangeAt Go.RowKit


attribute [local go_sem] fieldTk0 fieldTk1 fieldTk3 hmf
attribute [local go_sem ↓] bslNd_seal
attribute [local go_sem] bslNd1_run bslNd2_run
attribute [local go_sem ↓] appN_seal
/-- What block leaves: it may read nothing. -/
def PostB (w : World) (b g cap : Nat) (L : List Tok) (i o : Nat) (r : Rs Nd) (e : Ending) (w' : World) : Prop := match r with
  | .ok n t => ∃ c i', e = .returned (.agg (Nc.cells c)) ∧ t = L.drop i' ∧ i ≤ i' ∧ St w w' b g cap L i' o ∧ NdAt w' (fun x => w.heap.size ≤ x) c n
  | .bad p er => e = gaveUp p er ∧ w.grownBy w' (some b)
theorem postB_or {w w' : World} {b g cap i o : Nat} {L : List Tok} {R : Rs Nd} {e : Ending} (hP : PostB w b g cap L i o R e w') :
    (∃ n t c i', R = .ok n t ∧ e = .returned (.agg (Nc.cells c)) ∧ t = L.drop i' ∧ i ≤ i' ∧ St w w' b g cap L i' o ∧ NdAt w' (fun x => w.heap.size ≤ x) c n) ∨ (∃ p er, R = .bad p er ∧ e = gaveUp p er ∧ w.grownBy w' (some b)) := by
  cases R with
  | ok n t => obtain ⟨c, i', h⟩ := hP; exact .inl ⟨n, t, c, i', rfl, h⟩
  | bad p er => exact .inr ⟨p, er, rfl, hP⟩
/-- A block, with so much fuel. -/
def blkR (f o : Nat) (t : List Tok) : Rs Nd := (runS f (.block []) o t).bind fun l r => .ok (blkN (hd t).p l) r
def PsB (f : Nat) : Prop := ∀ (w : World) (b g cap : Nat) (L : List Tok) (i o : Nat), RdAt w b g cap L i o → (L.length - i) * 4 + 3 ≤ f → Calls Tryd.prog 41 #[.pointer (some ⟨b, 0, none⟩)] w (PostB w b g cap L i o (blkR f o (L.drop i)))
def rptR (f o : Nat) (t : List Tok) : Rs Nd := (beginR o t).bind fun x r => (blkR f (o + 1) r).bind fun n s => (mustR [85, 78, 84, 73, 76] s).bind fun _ u => (exprR (o + 1) u).bind fun y v => .ok (.mk 21 [] 0 false [n, y] x.p) v
set_option maxHeartbeats 8000000 in
set_option maxRecDepth 20000 in
theorem repeat_step (f : Nat) (hB : PsB f) (w : World) (b g cap : Nat) (L : List Tok) (i o : Nat) (h : RdAt w b g cap L i o) (hk0 : (hd (L.drop i)).k ≠ 0) (hf : (L.length - i) * 4 ≤ f) : Calls Tryd.prog 71 #[.pointer (some ⟨b, 0, none⟩)] w (PostN w b g cap L i o (rptR f o (L.drop i))) := by
  have bl := h.bl
  have gl := h.gl
  have hil := h.il
  have hol := h.ol
  have H : Hid (RdAt w b g cap L i o) := h
  unfold rptR beginR
  by_cases ho : o = 24
  · subst ho
    rw [if_pos rfl, Rs.bind_bad]
    have BN : Hid (∀ X, RdAt X b g cap L i 24 → Calls Tryd.prog 76 #[.pointer (some ⟨b, 0, none⟩)] X _) := fun X hX => begin_no X b g cap L i hX
    clear h hB
    generalize (hd (L.drop i)).p = p at BN ⊢
    go_enter Tryd.func71, Tryd.ntmps71
    go_wp2_with (go_at_call 76; refine (BN.out _ (H.out.alloc _)).mono ?_; rintro e w2 ⟨he, g2⟩; unfold gaveUp at he; subst he)
    exact ⟨rfl, rfl, gb_trans ((St.refl H.out).alloc _).gb g2⟩
  · rw [if_neg ho, Rs.bind_ok, List.tail_drop]
    have BY : Hid (∀ X, RdAt X b g cap L i o → Calls Tryd.prog 76 #[.pointer (some ⟨b, 0, none⟩)] X _) := fun X hX => begin_yes X b g cap L i o hX (by omega) hk0
    have BL : Hid (∀ X j, i < j → RdAt X b g cap L j (o + 1) → Calls Tryd.prog 41 #[.pointer (some ⟨b, 0, none⟩)] X (PostB X b g cap L j (o + 1) (blkR f (o + 1) (L.drop j)))) := fun X j hj hX => hB X b g cap L j (o + 1) hX (by omega)
    clear h hB hf hk0 hil
    generalize hd (L.drop i) = tk at BY ⊢
    generalize hR : ((blkR f (o + 1) (L.drop (i + 1))).bind fun n s => (mustR [85, 78, 84, 73, 76] s).bind fun _ u => (exprR (o + 1) u).bind fun y v => Rs.ok (Nd.mk 21 [] 0 false [n, y] tk.p) v) = R
    have HR : Hid (((blkR f (o + 1) (L.drop (i + 1))).bind fun n s => (mustR [85, 78, 84, 73, 76] s).bind fun _ u => (exprR (o + 1) u).bind fun y v => Rs.ok (Nd.mk 21 [] 0 false [n, y] tk.p) v) = R) := hR
    clear hR
    have e0 : tk.tk.p = (tk.p : Int) := rfl
    go_enter Tryd.func71, Tryd.ntmps71
    go_wp2_with (first
      | (go_at_call 76; refine (BY.out _ (H.out.alloc _)).mono ?_; rintro e w1 ⟨rfl, s1⟩; have hs1 := s1.size; simp at hs1; have B1 : Hid (St w w1 b g cap L (i + 1) (o + 1)) := ((St.refl H.out).alloc _).next s1; have m1 : roomAt w1 w.heap.size 6 = true := (s1.room (by simp) (by omega) 6).trans (roomNd_new _ _ _ _ (by simp)))
      | (go_at_call 41; refine (BL.out _ (i + 1) (by omega) B1.out.rd).mono ?_; intro e w2 hP; rcases postB_or hP with ⟨y, s, c2, i2, hy, rfl, ht2, hi2, s2, nd2⟩ | ⟨p2, er, hy, he, g2⟩ <;> first
          | (have hs2 := s2.size; have m2 : roomAt w2 w.heap.size 6 = true := (s2.room (by omega) (by omega) 6).trans m1; have A2 : Hid (St w w2 b g cap L i2 (o + 1) ∧ NdAt w2 (fun x => w.heap.size + 1 ≤ x) c2 y ∧ i < i2 ∧ blkR f (o + 1) (L.drop (i + 1)) = .ok y (L.drop i2)) := ⟨B1.out.next s2, nd2.mono (by omega), by omega, by rw [hy, ht2]⟩; clear nd2 hi2 hy ht2 hP s2)
          | (unfold gaveUp at he; subst he))
      | (go_at_call 30; refine (must_any _ b g cap L i2 (o + 1) (A2.out.1.alloc _).rd [85, 78, 84, 73, 76] (by decide)).mono ?_; intro e w3 hP; rcases postT_or hP with ⟨x3, u3, hm3, rfl, ht3, s3⟩ | ⟨p3, er3, hm3, he, g3⟩ <;> first
          | (have hs3 := s3.size; simp at hs3; have m3 : roomAt w3 w.heap.size 6 = true := (s3.room (by simp; omega) (by omega) 6).trans ((roomAt_old _ _ _ _ (by omega)).trans m2); have r3 : rowAt w3 w2.heap.size = some c2.cells := (s3.row (by simp) (by omega)).trans (rowAt_at _ _ _ _ _ rfl); have A3 : Hid (St w w3 b g cap L (i2 + 1) (o + 1) ∧ NdAt w3 (fun x => w.heap.size + 1 ≤ x ∧ x < w2.heap.size) c2 y) := ⟨(A2.out.1.alloc _).next s3, NdAt.keep (fun x hx hl => ⟨hx, hl⟩) (by omega) (fun x hx hl => (s3.gb.block x (by simp; omega) (fun e => by injection e with e; omega)).trans (((Below.refl _ _).alloc (Nat.le_refl _) _).block x hl)) A2.out.2.1⟩)
          | (unfold gaveUp at he; subst he))
      | (go_at_call 16; refine (expression_any _ b g cap L (i2 + 1) (o + 1) A3.out.1.rd).mono ?_; intro e w4 hP; rcases postN_or hP with ⟨z, v, c4, i4, hz, rfl, ht4, hi4, s4, nd4⟩ | ⟨p4, er4, hz, he, g4⟩ <;> first
          | (have hs4 := s4.size; have m4 : roomAt w4 w.heap.size 6 = true := (s4.room (by omega) (by omega) 6).trans m3; have r4 : rowAt w4 w2.heap.size = some c2.cells := (s4.row (by omega) (by omega)).trans r3; have A4 : Hid (St w w4 b g cap L i4 (o + 1) ∧ NdAt w4 (fun x => w.heap.size + 1 ≤ x) c2 y ∧ NdAt w4 (fun x => w.heap.size + 1 ≤ x) c4 z ∧ i < i4 ∧ Rs.ok (Nd.mk 21 [] 0 false [y, z] tk.p) (L.drop i4) = R) := ⟨A3.out.1.next s4, NdAt.keep (fun x hx hl => hx.1) (by omega) (fun x hx hl => s4.gb.block x hl (fun e => by injection e with e; omega)) A3.out.2, nd4.mono (by omega), (by have := A2.out.2.2.1; omega), (by rw [← HR.out, A2.out.2.2.2, Rs.bind_ok, hm3, Rs.bind_ok, ht3, hz, Rs.bind_ok, ht4])⟩; clear nd4 s4)
          | (unfold gaveUp at he; subst he))
      | (go_at_call 77; refine (end_any _ b g cap L i4 o (A4.out.1.alloc _).rd).mono ?_; rintro e w6 ⟨rfl, s6⟩; have hs6 := s6.size; simp at hs6; have m6 : roomAt w6 w.heap.size 6 = true := (s6.room (by simp; omega) (by omega) 6).trans ((roomAt_old _ _ _ _ (by omega)).trans m4); have r6 : rowAt w6 w2.heap.size = some c2.cells := (s6.row (by simp; omega) (by omega)).trans ((rowAt_old _ _ _ (by omega)).trans r4); have q6 : rowAt w6 w4.heap.size = some c4.cells := (s6.row (by simp) (by omega)).trans (rowAt_at _ _ _ _ _ rfl))
      | (go_at_call 59; refine (node_any _ _ _ _ _ _).mono ?_; rintro e w7 ⟨rfl, hb7⟩; have hs7 := hb7.size; simp at hs7; have m7 : roomAt w7 w.heap.size 6 = true := (roomAt_below hb7 _ _ (by simp; omega)).trans ((roomAt_old _ _ _ _ (by omega)).trans m6)))
    all_goals first
      | (rw [← HR.out, hy, Rs.bind_bad]; exact ⟨rfl, rfl, gb_trans B1.out.gb g2⟩)
      | (rw [← HR.out, A2.out.2.2.2, Rs.bind_ok, hm3, Rs.bind_bad]; exact ⟨rfl, rfl, gb_trans (A2.out.1.alloc _).gb g3⟩)
      | (rw [← HR.out, A2.out.2.2.2, Rs.bind_ok, hm3, Rs.bind_ok, ht3, hz, Rs.bind_bad]; exact ⟨rfl, rfl, gb_trans A3.out.1.gb g4⟩)
      | (have S7 : St w w7 b g cap L i4 o := (((A4.out.1.alloc _).next s6).alloc _).below hb7
         have mb : w7.heap[w6.heap.size]? = some (.cells (c2.cells ++ c4.cells) 31 (0, 0)) := (hb7.block _ (by simp)).trans (heap_new' _ _ rfl)
         have kp : ∀ x, x < w4.heap.size → x ≠ b → w7.heap[x]? = w4.heap[x]? := fun x h1 h3 => (hb7.block x (by simp; omega)).trans ((((Below.refl _ _).alloc (Nat.le_refl _) _).block x (by omega)).trans ((s6.gb.block x (by simp; omega) (fun e => by injection e with e; omega)).trans (((Below.refl _ _).alloc (Nat.le_refl _) _).block x h1)))
         have n1 : NdAt w7 (fun x => w.heap.size + 1 ≤ x) c2 y := A4.out.2.1.keep (fun x hx _ => hx) (by omega) (fun x hx hl => kp x hl (by omega))
         have n2 : NdAt w7 (fun x => w.heap.size + 1 ≤ x) c4 z := A4.out.2.2.1.keep (fun x hx _ => hx) (by omega) (fun x hx hl => kp x hl (by omega))
         rw [← A4.out.2.2.2.2]
         exact ret_cell1 rfl rfl (loadNd_row (rowNd_put _ _ _ m7)) rfl (fin_post (i := i) S7 bl gl A4.out.2.2.2.1 rfl (two_made 21 [] tk.p (by omega) mb n1 n2)))
end Go.Proofs.YtllhcjmabhempaaDoor

namespace Go.Proofs.YtllhcjmabhempaaDoor
set_option linter.unusedVariables false
set_option linter.unusedSimpArgs false
open Go.ChangeShapes Go.WideShapes Go.ChangeAt Go.RowKit


attribute [local go_sem] fieldTk0 fieldTk1 fieldTk3 hmf
attribute [local go_sem ↓] bslNd_seal
attribute [local go_sem] bslNd1_run bslNd2_run
attribute [local go_sem ↓] appN_seal

def zNc : Nc := ⟨0, ⟨#[]⟩, 0, false, none, 0, 0, 0⟩
/-- What statement leaves. -/
def PostS (w : World) (b g cap : Nat) (L : List Tok) (i o : Nat) (r : Rs Nd) (e : Ending) (w' : World) : Prop :=
  (begins (L.drop i) ∧ ∃ n t c i', r = .ok n t ∧ e = .returned (.tuple #[.agg (Nc.cells c), .bool true]) ∧ t = L.drop i' ∧ i < i' ∧ St w w' b g cap L i' o ∧ NdAt w' (fun x => w.heap.size ≤ x) c n) ∨
  (begins (L.drop i) ∧ ∃ p er, r = .bad p er ∧ e = gaveUp p er ∧ w.grownBy w' (some b)) ∨
  (¬ begins (L.drop i) ∧ e = .returned (.tuple #[.agg zNc.cells, .bool false]) ∧ St w w' b g cap L i o)
def PsS (f : Nat) : Prop := ∀ (w : World) (b g cap : Nat) (L : List Tok) (i o : Nat), RdAt w b g cap L i o → (L.length - i) * 4 + 2 ≤ f → Calls Tryd.prog 60 #[.pointer (some ⟨b, 0, none⟩)] w (PostS w b g cap L i o (runS f .stat o (L.drop i)))
theorem FN.finB {w X : World} {b g cap : Nat} {L : List Tok} {j o r q B : Nat} {k : Int} {t : Bs} {fl : Bool} {p : Nat} {a : Option Addr} {N m : Nat} {l : List Nd} {i : Nat} (h : FN w X b g cap L j o r q B k t fl p a N m l) (bl : b < w.heap.size) (gl : g < w.heap.size) (hi : i ≤ j) : PostB w b g cap L i o (.ok (.mk k t 0 fl l p) (L.drop j)) (.returned (.agg (⟨k, bs t, 0, fl, a, N, m, (p : Int)⟩ : Nc).cells)) (putRow X r (⟨k, bs t, 0, fl, a, N, m, (p : Int)⟩ : Nc).cells) :=
  ⟨_, j, rfl, rfl, hi, h.st.old bl gl _ h.hr _, h.nd.keep (fun x hx _ => by have := h.hq; have := h.qB; omega) (by rw [size_put]; exact Nat.le_refl _) (fun x hx _ => put_far _ _ _ _ (by have := h.rB; omega))⟩
/-- What the loop over statements keeps. -/
def LpB (f : Nat) (w X : World) (b g cap : Nat) (L : List Tok) (i o q B p : Nat) (R : Rs Nd) (v : Value) (gf : Nat) : Prop := ∃ j l a N m, FN w X b g cap L j o w.heap.size q B 16 [] false p a N m l ∧ i ≤ j ∧ ((v = .bool true ∧ ∃ f1, f1 ≤ f ∧ runS (f1 + 1) (.block l) o (L.drop j) = R ∧ (L.length - j) * 4 + 2 ≤ f1 ∧ (L.length - j) * 2 + 2 ≤ gf) ∨ (v = .bool false ∧ .ok (lst l) (L.drop j) = R ∧ 1 ≤ gf))
set_option maxHeartbeats 8000000 in
set_option maxRecDepth 20000 in
theorem block_step (f : Nat) (hS : ∀ f', f' ≤ f → PsS f') : PsB (f + 1) := by
  intro w b g cap L i o h hf
  have bl := h.bl
  have gl := h.gl
  have hil := h.il
  have H : Hid (RdAt w b g cap L i o) := h
  have HS : Hid (∀ f', f' ≤ f → PsS f') := hS
  have HE : Hid (∀ X, RdAt X b g cap L i o → Calls Tryd.prog 28 #[.pointer (some ⟨b, 0, none⟩)] X _) := fun X hX => here_any X b g cap L i o hX
  unfold blkR
  generalize hd (L.drop i) = tk at HE ⊢
  generalize hR : runS (f + 1) (.block []) o (L.drop i) = R
  have HR : Hid (runS (f + 1) (.block []) o (L.drop i) = R) := hR
  have e0 : tk.tk.p = (tk.p : Int) := rfl
  clear hR h hS
  go_enter Tryd.func41, Tryd.ntmps41
  go_wp2_with (first
    | (go_at_call 28; refine (HE.out _ (H.out.alloc _)).mono ?_; rintro e w1 ⟨rfl, hb1⟩; have hs1 := hb1.size; simp at hs1; have B1 : Hid (St w w1 b g cap L i o) := ((St.refl H.out).alloc _).below hb1; have m1 : roomAt w1 w.heap.size 6 = true := (roomAt_below hb1 _ _ (by simp)).trans (roomNd_new _ _ _ _ (by simp)))
    | (go_at_call 59; refine (node_any _ _ _ _ _ _).mono ?_; rintro e w2 ⟨rfl, hb2⟩; have hs2 := hb2.size; have A2 : Hid (FN w (w2.alloc (.cells (⟨16, ⟨#[]⟩, 0, false, none, 0, 0, (tk.p : Int)⟩ : Nc).cells 31)) b g cap L i o w.heap.size w2.heap.size (w2.heap.size + 1) 16 [] false tk.p none 0 0 []) := FN.new (B1.out.below hb2) ((roomAt_below hb2 _ _ (by omega)).trans m1) (Nat.le_refl _) (by omega) rfl))
  go_loopg [4] (L.length * 2 + 3) (fun gf s4 X => LpB f w X b g cap L i o w2.heap.size (w2.heap.size + 1) tk.p R s4 gf)
  case atStart => exact ⟨i, [], none, 0, 0, A2.out, Nat.le_refl _, .inl ⟨rfl, f, Nat.le_refl _, HR.out, by omega, by omega⟩⟩
  case round =>
    obtain ⟨j, l, a, N, m, FJ, hij, hv⟩ := hrel
    have AJ : Hid (FN w wr b g cap L j o w.heap.size w2.heap.size (w2.heap.size + 1) 16 [] false tk.p a N m l) := FJ
    have hjl := FJ.st.rd.il
    have hlt := FJ.lt
    have hle := FJ.len
    have hsz := FJ.st.size
    clear FJ A2 B1 m1 HE HR hb1 hb2
    rcases hv with ⟨rfl, f1, hf1, hrun, hfu, hg⟩ | ⟨rfl, hrun, hg⟩
    · obtain ⟨g', rfl⟩ : ∃ g', gk = g' + 1 := ⟨gk - 1, by omega⟩
      have SC := HS.out f1 hf1 wr b g cap L j o AJ.out.st.rd hfu
      rw [runS] at hrun
      have HR : Hid ((if begins (L.drop j) then (runS f1 .stat o (L.drop j)).bind fun x r => if wd r = [59] then runS f1 (.block (l ++ [x])) o r.tail else .ok (lst (l ++ [x])) r else if wd (L.drop j) = [59] then runS f1 (.block l) o (L.drop j).tail else .ok (lst l) (L.drop j)) = R) := hrun
      clear hrun
      have SH : Hid (Calls Tryd.prog 60 #[.pointer (some ⟨b, 0, none⟩)] wr (PostS wr b g cap L j o (runS f1 .stat o (L.drop j)))) := SC
      clear SC
      go_wp2_with (first
        | (go_at_call 60; refine SH.out.mono ?_; intro e w5 hP; rcases hP with ⟨hbg, n5, t5, c5, i5, hy5, rfl, ht5, hi5, s5, nd5⟩ | ⟨hbg, p5, er5, hy5, he, g5⟩ | ⟨hbg, rfl, s5⟩ <;> first
            | (have hx := nd5; clear hx; have hs5 := s5.size; obtain ⟨g6, N6, cp6, Y6, hrun6, rY6, fY6, F6⟩ := AJ.out.push (W := (w5.alloc (.cells c5.cells 31)).alloc (.cells c5.cells 31)) (c5 := c5) bl gl (s5.alloc (.cells c5.cells 31)) (nd5.keep (fun x hx _ => hx) (by simp) (fun x hx hl => ((Below.refl _ _).alloc (Nat.le_refl _) _).block x hl)) (by omega) rfl; have z5 : (w5.alloc (.cells c5.cells 31)).heap.size = w5.heap.size + 1 := (by simp); rw [z5] at hrun6; clear z5; have rA := (AJ.out.step bl s5 (by omega)).row; have cA := rowAt_cell rA; have hqn : w2.heap.size ≠ w5.heap.size := (by omega); have hql : w2.heap.size < w5.heap.size := (by omega); have cY := rowAt_cell rY6; have Q5 : Hid ((if wd (L.drop i5) = [59] then runS f1 (.block (l ++ [n5])) o (L.drop i5).tail else .ok (lst (l ++ [n5])) (L.drop i5)) = R) := (by show _ = _; rw [← HR.out, if_pos hbg, hy5, Rs.bind_ok, ht5]); clear nd5 s5 hy5 ht5 hbg)
            | (unfold gaveUp at he; subst he)
            | (have hs5 := s5.size; have F5 : Hid (FN w (w5.alloc (.cells zNc.cells 31)) b g cap L j o w.heap.size w2.heap.size (w2.heap.size + 1) 16 [] false tk.p a N m l) := (AJ.out.step bl s5 (Nat.le_refl _)).alloc bl _; have Q5 : Hid ((if wd (L.drop j) = [59] then runS f1 (.block l) o (L.drop j).tail else .ok (lst l) (L.drop j)) = R) := (by show _ = _; rw [← HR.out, if_neg hbg]); clear s5 hbg))
        | (go_at_call 32; have hx := F6; clear hx; by_cases hw : wd (L.drop i5) = [59] <;> first
            | (refine (found_yes _ b g cap L i5 o F6.out.st.rd [59] (by decide) hw).mono ?_; rintro e w7 ⟨rfl, s7⟩; have K7 : Hid (∀ gf, (L.length - (i5 + 1)) * 2 + 2 ≤ gf → LpB f w w7 b g cap L i o w2.heap.size (w2.heap.size + 1) tk.p R (.bool true) gf) := (fun gf hgf => ⟨i5 + 1, _, _, _, _, F6.out.step bl s7 (by omega), by omega, .inl ⟨rfl, f1 - 1, by omega, by rw [show f1 - 1 + 1 = f1 by omega]; have := Q5.out; rwa [if_pos hw, List.tail_drop] at this, by omega, hgf⟩⟩); clear hw F6)
            | (refine (found_no _ b g cap L i5 o F6.out.st.rd [59] hw).mono ?_; rintro e w7 ⟨rfl, hb7⟩; have K8 : Hid (∀ gf, 1 ≤ gf → LpB f w w7 b g cap L i o w2.heap.size (w2.heap.size + 1) tk.p R (.bool false) gf) := (fun gf hgf => ⟨i5, _, _, _, _, F6.out.below bl hb7, by omega, .inr ⟨rfl, by have := Q5.out; rwa [if_neg hw] at this, hgf⟩⟩); clear hw F6))
        | (go_at_call 32; have hx := F5; clear hx; by_cases hw : wd (L.drop j) = [59] <;> first
            | (refine (found_yes _ b g cap L j o F5.out.st.rd [59] (by decide) hw).mono ?_; rintro e w7 ⟨rfl, s7⟩; have K9 : Hid (∀ gf, (L.length - (j + 1)) * 2 + 2 ≤ gf → LpB f w w7 b g cap L i o w2.heap.size (w2.heap.size + 1) tk.p R (.bool true) gf) := (fun gf hgf => ⟨j + 1, _, _, _, _, F5.out.step bl s7 (by omega), by omega, .inl ⟨rfl, f1 - 1, by omega, by rw [show f1 - 1 + 1 = f1 by omega]; have := Q5.out; rwa [if_pos hw, List.tail_drop] at this, by omega, hgf⟩⟩); clear hw F5)
            | (refine (found_no _ b g cap L j o F5.out.st.rd [59] hw).mono ?_; rintro e w7 ⟨rfl, hb7⟩; have K8 : Hid (∀ gf, 1 ≤ gf → LpB f w w7 b g cap L i o w2.heap.size (w2.heap.size + 1) tk.p R (.bool false) gf) := (fun gf hgf => ⟨j, _, _, _, _, F5.out.below bl hb7, by omega, .inr ⟨rfl, by have := Q5.out; rwa [if_neg hw] at this, hgf⟩⟩); clear hw F5)))
      all_goals first
        | (have := HR.out; rw [if_pos hbg, hy5, Rs.bind_bad] at this; rw [← this, Rs.bind_bad]; exact ⟨rfl, rfl, gb_trans AJ.out.st.gb g5⟩)
        | (have hK := K7.out
           go_roundg g'
           case measure => omega
           case rel => exact hK _ (by omega))
        | (have hK := K9.out
           go_roundg g'
           case measure => omega
           case rel => exact hK _ (by omega))
        | (have hK := K8.out
           go_roundg g'
           case measure => omega
           case rel => exact hK _ (by omega))
    · have rJ := AJ.out.row
      have mJ := AJ.out.res
      have HR : Hid (.ok (lst l) (L.drop j) = R) := hrun
      clear hrun
      go_wp2_with fail
      rw [← HR.out, Rs.bind_ok]
      exact ret_cell1 rfl rfl (loadNd_row (rowNd_put _ _ _ mJ)) rfl (AJ.out.finB bl gl hij)
end Go.Proofs.YtllhcjmabhempaaDoor

namespace Go.Proofs.YtllhcjmabhempaaDoor
set_option linter.unusedVariables false
set_option linter.unusedSimpArgs false
open Go.ChangeShapes Go.WideShapes Go.ChangeAt Go.RowKit


attribute [local go_sem] fieldTk0 fieldTk1 fieldTk3 hmf
attribute [local go_sem ↓] bslNd_seal
attribute [local go_sem] bslNd1_run bslNd2_run
attribute [local go_sem ↓] appN_seal
theorem Rs.assoc {α β γ : Type} (x : Rs α) (f : α → List Tok → Rs β) (g : β → List Tok → Rs γ) : (x.bind f).bind g = x.bind fun a r => (f a r).bind g := by cases x <;> rfl
/-- Conditions and blocks, with so much fuel. -/
theorem br_eq (f o : Nat) (s : Bs) (acc : List Nd) (t : List Tok) : runS (f + 1) (.br s acc) o t = (exprR o t).bind fun c r => (mustR s r).bind fun _ u => (blkR f o u).bind fun y v => if wd v = [69, 76, 83, 73, 70] then runS f (.br s (acc ++ [c, y])) o v.tail else .ok (lst (acc ++ [c, y])) v := by
  rw [runS]
  congr 1; funext c r; congr 1; funext _ u
  unfold blkR
  rw [Rs.assoc]
  congr 1
/-- What the loop over branches keeps. -/
def LpC (f : Nat) (w X : World) (b g cap : Nat) (L : List Tok) (i o q B : Nat) (k : Int) (p : Nat) (s : Bs) (R : Rs Nd) (v : Value) (gf : Nat) : Prop := ∃ j l a N m, FN w X b g cap L j o w.heap.size q B k [] false p a N m l ∧ i < j ∧ ((v = .bool true ∧ ∃ f1, f1 + 1 ≤ f ∧ runS (f1 + 1) (.br s l) o (L.drop j) = R ∧ (L.length - j) * 4 + 1 ≤ f1 ∧ (L.length - j) * 2 + 2 ≤ gf) ∨ (v = .bool false ∧ .ok (lst l) (L.drop j) = R ∧ 1 ≤ gf))
def whlR (f o : Nat) (t : List Tok) : Rs Nd := (beginR o t).bind fun x r => (runS f (.br [68, 79] []) (o + 1) r).bind (fun (l : Nd) s => (mustR [69, 78, 68] s).bind fun _ v => Rs.ok (Nd.mk 20 [] 0 false l.kids x.p) v)
set_option maxHeartbeats 8000000 in
set_option maxRecDepth 20000 in
theorem whl_step (f : Nat) (hB : ∀ f', f' ≤ f → PsB f') (w : World) (b g cap : Nat) (L : List Tok) (i o : Nat) (h : RdAt w b g cap L i o) (hk0 : (hd (L.drop i)).k ≠ 0) (hf : (L.length - i) * 4 ≤ f) : Calls Tryd.prog 70 #[.pointer (some ⟨b, 0, none⟩), .int .i64 20, .string (bs [68, 79])] w (PostN w b g cap L i o (whlR f o (L.drop i))) := by
  have bl := h.bl
  have gl := h.gl
  have hil := h.il
  have hol := h.ol
  have H : Hid (RdAt w b g cap L i o) := h
  unfold whlR beginR
  by_cases ho : o = 24
  · subst ho
    rw [if_pos rfl, Rs.bind_bad]
    have BN : Hid (∀ X, RdAt X b g cap L i 24 → Calls Tryd.prog 76 #[.pointer (some ⟨b, 0, none⟩)] X _) := fun X hX => begin_no X b g cap L i hX
    clear h hB
    generalize (hd (L.drop i)).p = p at BN ⊢
    go_enter Tryd.func70, Tryd.ntmps70
    go_wp2_with (go_at_call 76; refine (BN.out _ (H.out.alloc _)).mono ?_; rintro e w2 ⟨he, g2⟩; unfold gaveUp at he; subst he)
    exact ⟨rfl, rfl, gb_trans ((St.refl H.out).alloc _).gb g2⟩
  · rw [if_neg ho, Rs.bind_ok, List.tail_drop]
    have BY : Hid (∀ X, RdAt X b g cap L i o → Calls Tryd.prog 76 #[.pointer (some ⟨b, 0, none⟩)] X _) := fun X hX => begin_yes X b g cap L i o hX (by omega) hk0
    have hn : i + 1 < L.length := h.last i h.il (by rw [← h.hd]; exact hk0)
    have HB : Hid (∀ f', f' ≤ f → PsB f') := hB
    clear h hB hk0
    generalize hd (L.drop i) = tk at BY ⊢
    have e0 : tk.tk.p = (tk.p : Int) := rfl
    generalize hR : runS f (.br [68, 79] []) (o + 1) (L.drop (i + 1)) = R
    have HR : Hid (runS f (.br [68, 79] []) (o + 1) (L.drop (i + 1)) = R) := hR
    clear hR
    obtain ⟨f0, hf0⟩ : ∃ f0, f = f0 + 1 := ⟨f - 1, by omega⟩
    go_enter Tryd.func70, Tryd.ntmps70
    go_wp2_with (first
      | (go_at_call 76; refine (BY.out _ (H.out.alloc _)).mono ?_; rintro e w1 ⟨rfl, s1⟩; have hs1 := s1.size; simp at hs1; have B1 : Hid (St w w1 b g cap L (i + 1) (o + 1)) := ((St.refl H.out).alloc _).next s1; have m1 : roomAt w1 w.heap.size 6 = true := (s1.room (by simp) (by omega) 6).trans (roomNd_new _ _ _ _ (by simp)))
      | (go_at_call 59; refine (node_any _ _ _ _ _ _).mono ?_; rintro e w2 ⟨rfl, hb2⟩; have hs2 := hb2.size; have A2 : Hid (FN w (w2.alloc (.cells (⟨20, ⟨#[]⟩, 0, false, none, 0, 0, (tk.p : Int)⟩ : Nc).cells 31)) b g cap L (i + 1) (o + 1) w.heap.size w2.heap.size (w2.heap.size + 1) 20 [] false tk.p none 0 0 []) := FN.new (B1.out.below hb2) ((roomAt_below hb2 _ _ (by omega)).trans m1) (Nat.le_refl _) (by omega) rfl))
    go_loopg [8] (L.length * 2 + 3) (fun gf s8 X => LpC f w X b g cap L i (o + 1) w2.heap.size (w2.heap.size + 1) 20 tk.p [68, 79] R s8 gf)
    case atStart => exact ⟨i + 1, [], none, 0, 0, A2.out, by omega, .inl ⟨rfl, f0, by omega, by rw [← hf0]; exact HR.out, by omega, by omega⟩⟩
    case round =>
      obtain ⟨j, l, a, N, m, FJ, hij, hv⟩ := hrel
      have AJ : Hid (FN w wr b g cap L j (o + 1) w.heap.size w2.heap.size (w2.heap.size + 1) 20 [] false tk.p a N m l) := FJ
      have hjl := FJ.st.rd.il
      have hlt := FJ.lt
      have hle := FJ.len
      have hsz := FJ.st.size
      clear FJ A2 B1 m1 HR hb2 BY
      rcases hv with ⟨rfl, f1, hf1, hrun, hfu, hg⟩ | ⟨rfl, hrun, hg⟩
      · obtain ⟨g', rfl⟩ : ∃ g', gk = g' + 1 := ⟨gk - 1, by omega⟩
        rw [br_eq] at hrun
        have HR : Hid (((exprR (o + 1) (L.drop j)).bind fun c r => (mustR [68, 79] r).bind fun _ u => (blkR f1 (o + 1) u).bind fun y v => if wd v = [69, 76, 83, 73, 70] then runS f1 (.br [68, 79] (l ++ [c, y])) (o + 1) v.tail else .ok (lst (l ++ [c, y])) v) = R) := hrun
        clear hrun
        have BL : Hid (∀ X j2, j < j2 → RdAt X b g cap L j2 (o + 1) → Calls Tryd.prog 41 #[.pointer (some ⟨b, 0, none⟩)] X (PostB X b g cap L j2 (o + 1) (blkR f1 (o + 1) (L.drop j2)))) := fun X j2 hj hX => HB.out f1 (by omega) X b g cap L j2 (o + 1) hX (by omega)
        go_upto_region 5 with fail
        go_cut [] from 14 to 33 (fun Y => ∃ n5 i5 a5 N5 m5, Hid (FN w Y b g cap L i5 (o + 1) w.heap.size w2.heap.size (w2.heap.size + 1) 20 [] false tk.p a5 N5 m5 (l ++ [n5]) ∧ j < i5 ∧ ((mustR [68, 79] (L.drop i5)).bind fun _ u => (blkR f1 (o + 1) u).bind fun y v => if wd v = [69, 76, 83, 73, 70] then runS f1 (.br [68, 79] (l ++ [n5, y])) (o + 1) v.tail else .ok (lst (l ++ [n5, y])) v) = R))
        case first =>
          have D := (AJ.out).drew bl
          have rD := D.row
          have lD := D.lt
          refine wp_region_held_drew (S := (fun _ => True)) (by kernel_rfl) trivial (fun hHeld => ?_)
          refine wpAnyH_take (i := 0) (v := ?_) rfl (by kernel_rfl) (by kernel_rfl) (by kernel_rfl) (fun _ _ _ h => h) (Or.inl ⟨by rfl, ?y0a⟩) hHeld ?r0a
          case y0a => (intro w2 hSw; (try dsimp only at hSw); go_simp; try rfl)
          simp only [Act.put, List.setIfInBounds_toArray, List.set_cons_zero, List.set_cons_succ]
          refine wpAnyH_take (i := 2) (v := ?_) rfl (by kernel_rfl) (by kernel_rfl) (by kernel_rfl) (fun _ _ _ h => h) (Or.inl ⟨by rfl, ?y2a⟩) hHeld ?r2a
          case y2a => (intro w2 hSw; (try dsimp only at hSw); go_simp; try rfl)
          simp only [Act.put, List.setIfInBounds_toArray, List.set_cons_zero, List.set_cons_succ]
          refine wpAnyH_ready (rs := [1, 3]) (by kernel_rfl) (by simp) ?_
          refine .cons rfl (fun K hK => ?_) (.cons rfl (fun K hK => ?_) .nil)
          · have cL := rowAt_cell rD
            go_simp
            refine hK.out _ _ trivial (fun _ => ?_)
            clear hK K
            refine wpAnyH_ready (rs := [3]) (by kernel_rfl) (by simp) ?_
            refine .cons rfl (fun K hK => ?_) .nil
            go_simp
            go_wp2_with (go_at_call 16; refine (expression_any _ b g cap L j (o + 1) D.st.rd).mono ?_; intro e w5 hP; rcases postN_or hP with ⟨n5, t5, c5, i5, hy5, rfl, ht5, hi5, s5, nd5⟩ | ⟨p5, er5, hy5, he, g5⟩ <;> first | (have hs5 := s5.size; clear hP) | (unfold gaveUp at he; subst he))
            rotate_left
            · rw [← HR.out, hy5, Rs.bind_bad, Rs.bind_bad]; exact ⟨rfl, rfl, gb_trans D.st.gb g5⟩
            have r5 := (D.step bl s5 (by omega)).row
            refine hK.out _ _ trivial (fun _ => ?_)
            clear hK K
            refine wpAnyH_ready (rs := [4]) (by kernel_rfl) (by simp) ?_
            refine .cons rfl (fun K hK => ?_) .nil
            go_simp
            have r6 : rowAt (w5.alloc (.cells c5.cells 31)) _ = _ := (rowAt_old _ _ _ (Nat.ne_of_lt (Nat.lt_of_lt_of_le lD.1 hs5))).trans r5
            refine hK.out _ _ trivial (fun _ => ?_)
            clear hK K
            refine wpAnyH_ready (rs := [5]) (by kernel_rfl) (by simp) ?_
            refine .cons rfl (fun K hK => ?_) .nil
            obtain ⟨g6, N6, cp6, Y6, hrun6, rY6, fY6, F6⟩ := D.push (W := w5.alloc (.cells c5.cells 31)) bl gl s5 nd5 (by omega) rfl
            clear s5 nd5
            go_simp
            refine hK.out _ _ trivial (fun _ => ?_)
            clear hK K
            refine wpAnyH_ready (rs := [6]) (by kernel_rfl) (by simp) ?_
            refine .cons rfl (fun K hK => ?_) .nil
            go_simp
            refine hK.out _ _ trivial (fun _ => ?_)
            clear hK K
            refine wpAnyH_ready (rs := [7]) (by kernel_rfl) (by simp) ?_
            refine .cons rfl (fun K hK => ?_) .nil
            have cY := rowAt_cell rY6
            go_simp
            refine hK.out _ _ trivial (fun _ => ?_)
            clear hK K
            refine wpAnyH_done (by kernel_rfl) ?_ _
            go_wp2_with fail
            go_meet
            exact ⟨n5, i5, _, _, _, F6.out, by omega, by rw [← HR.out, hy5, Rs.bind_ok, ht5]⟩
          · go_simp
            go_wp2_with (go_at_call 16; refine (expression_any _ b g cap L j (o + 1) D.st.rd).mono ?_; intro e w5 hP; rcases postN_or hP with ⟨n5, t5, c5, i5, hy5, rfl, ht5, hi5, s5, nd5⟩ | ⟨p5, er5, hy5, he, g5⟩ <;> first | (have hs5 := s5.size; clear hP) | (unfold gaveUp at he; subst he))
            rotate_left
            · rw [← HR.out, hy5, Rs.bind_bad, Rs.bind_bad]; exact ⟨rfl, rfl, gb_trans D.st.gb g5⟩
            have r5 := (D.step bl s5 (by omega)).row
            refine hK.out _ _ trivial (fun _ => ?_)
            clear hK K
            refine wpAnyH_ready (rs := [1, 4]) (by kernel_rfl) (by simp) ?_
            refine .cons rfl (fun K hK => ?_) (.cons rfl (fun K hK => ?_) .nil)
            · have cL := rowAt_cell r5
              go_simp
              refine hK.out _ _ trivial (fun _ => ?_)
              clear hK K
              refine wpAnyH_ready (rs := [4]) (by kernel_rfl) (by simp) ?_
              refine .cons rfl (fun K hK => ?_) .nil
              go_simp
              have r6 : rowAt (w5.alloc (.cells c5.cells 31)) _ = _ := (rowAt_old _ _ _ (Nat.ne_of_lt (Nat.lt_of_lt_of_le lD.1 hs5))).trans r5
              refine hK.out _ _ trivial (fun _ => ?_)
              clear hK K
              refine wpAnyH_ready (rs := [5]) (by kernel_rfl) (by simp) ?_
              refine .cons rfl (fun K hK => ?_) .nil
              obtain ⟨g6, N6, cp6, Y6, hrun6, rY6, fY6, F6⟩ := D.push (W := w5.alloc (.cells c5.cells 31)) bl gl s5 nd5 (by omega) rfl
              clear s5 nd5
              go_simp
              refine hK.out _ _ trivial (fun _ => ?_)
              clear hK K
              refine wpAnyH_ready (rs := [6]) (by kernel_rfl) (by simp) ?_
              refine .cons rfl (fun K hK => ?_) .nil
              go_simp
              refine hK.out _ _ trivial (fun _ => ?_)
              clear hK K
              refine wpAnyH_ready (rs := [7]) (by kernel_rfl) (by simp) ?_
              refine .cons rfl (fun K hK => ?_) .nil
              have cY := rowAt_cell rY6
              go_simp
              refine hK.out _ _ trivial (fun _ => ?_)
              clear hK K
              refine wpAnyH_done (by kernel_rfl) ?_ _
              go_wp2_with fail
              go_meet
              exact ⟨n5, i5, _, _, _, F6.out, by omega, by rw [← HR.out, hy5, Rs.bind_ok, ht5]⟩
            · go_simp
              have r6 : rowAt (w5.alloc (.cells c5.cells 31)) _ = _ := (rowAt_old _ _ _ (Nat.ne_of_lt (Nat.lt_of_lt_of_le lD.1 hs5))).trans r5
              refine hK.out _ _ trivial (fun _ => ?_)
              clear hK K
              refine wpAnyH_ready (rs := [1]) (by kernel_rfl) (by simp) ?_
              refine .cons rfl (fun K hK => ?_) .nil
              have cL := rowAt_cell r6
              go_simp
              refine hK.out _ _ trivial (fun _ => ?_)
              clear hK K
              refine wpAnyH_ready (rs := [5]) (by kernel_rfl) (by simp) ?_
              refine .cons rfl (fun K hK => ?_) .nil
              obtain ⟨g6, N6, cp6, Y6, hrun6, rY6, fY6, F6⟩ := D.push (W := w5.alloc (.cells c5.cells 31)) bl gl s5 nd5 (by omega) rfl
              clear s5 nd5
              go_simp
              refine hK.out _ _ trivial (fun _ => ?_)
              clear hK K
              refine wpAnyH_ready (rs := [6]) (by kernel_rfl) (by simp) ?_
              refine .cons rfl (fun K hK => ?_) .nil
              go_simp
              refine hK.out _ _ trivial (fun _ => ?_)
              clear hK K
              refine wpAnyH_ready (rs := [7]) (by kernel_rfl) (by simp) ?_
              refine .cons rfl (fun K hK => ?_) .nil
              have cY := rowAt_cell rY6
              go_simp
              refine hK.out _ _ trivial (fun _ => ?_)
              clear hK K
              refine wpAnyH_done (by kernel_rfl) ?_ _
              go_wp2_with fail
              go_meet
              exact ⟨n5, i5, _, _, _, F6.out, by omega, by rw [← HR.out, hy5, Rs.bind_ok, ht5]⟩
        case rest =>
        obtain ⟨N9, i5, a5, N5, m5, A5⟩ := hcut
        have hi5 := A5.out.2.1
        go_upto_region 7 with (go_at_call 30; refine (must_any _ b g cap L i5 (o + 1) A5.out.1.st.rd [68, 79] (by decide)).mono ?_; intro e w6 hP; rcases postT_or hP with ⟨x6, u6, hm6, rfl, ht6, s6⟩ | ⟨p6, er6, hm6, he, g6⟩ <;> first
          | (have hs6 := s6.size; have A6 : Hid (FN w w6 b g cap L (i5 + 1) (o + 1) w.heap.size w2.heap.size (w2.heap.size + 1) 20 [] false tk.p a5 N5 m5 (l ++ [N9]) ∧ ((blkR f1 (o + 1) (L.drop (i5 + 1))).bind fun y v => if wd v = [69, 76, 83, 73, 70] then runS f1 (.br [68, 79] (l ++ [N9, y])) (o + 1) v.tail else .ok (lst (l ++ [N9, y])) v) = R ∧ (l ++ [N9]).length ≤ i5) := ⟨A5.out.1.step bl s6 (by omega), by rw [← A5.out.2.2, hm6, Rs.bind_ok, ht6], A5.out.1.len⟩; clear hP hm6 ht6 s6)
          | (unfold gaveUp at he; subst he))
        rotate_left
        · rw [← A5.out.2.2, hm6, Rs.bind_bad, Rs.bind_bad]; exact ⟨rfl, rfl, gb_trans A5.out.1.st.gb g6⟩
        have D := (A6.out.1).drew bl
        have rD := D.row
        have lD := D.lt
        refine wp_region_held_drew (S := (fun _ => True)) (by kernel_rfl) trivial (fun hHeld => ?_)
        refine wpAnyH_take (i := 0) (v := ?_) rfl (by kernel_rfl) (by kernel_rfl) (by kernel_rfl) (fun _ _ _ h => h) (Or.inl ⟨by rfl, ?y0b⟩) hHeld ?r0b
        case y0b => (intro w2 hSw; (try dsimp only at hSw); go_simp; try rfl)
        simp only [Act.put, List.setIfInBounds_toArray, List.set_cons_zero, List.set_cons_succ]
        refine wpAnyH_take (i := 2) (v := ?_) rfl (by kernel_rfl) (by kernel_rfl) (by kernel_rfl) (fun _ _ _ h => h) (Or.inl ⟨by rfl, ?y2b⟩) hHeld ?r2b
        case y2b => (intro w2 hSw; (try dsimp only at hSw); go_simp; try rfl)
        simp only [Act.put, List.setIfInBounds_toArray, List.set_cons_zero, List.set_cons_succ]
        refine wpAnyH_ready (rs := [1, 3]) (by kernel_rfl) (by simp) ?_
        refine .cons rfl (fun K hK => ?_) (.cons rfl (fun K hK => ?_) .nil)
        · have cL := rowAt_cell rD
          go_simp
          refine hK.out _ _ trivial (fun _ => ?_)
          clear hK K
          refine wpAnyH_ready (rs := [3]) (by kernel_rfl) (by simp) ?_
          refine .cons rfl (fun K hK => ?_) .nil
          go_simp
          go_wp2_with (go_at_call 41; refine (BL.out _ (i5 + 1) (by omega) D.st.rd).mono ?_; intro e w5 hP; rcases postB_or hP with ⟨n5x, t5, c5, i5x, hy5, rfl, ht5, hi5x, s5, nd5⟩ | ⟨p5, er5, hy5, he, g5⟩ <;> first | (have hs5 := s5.size; clear hP) | (unfold gaveUp at he; subst he))
          rotate_left
          · rw [← A6.out.2.1, hy5, Rs.bind_bad, Rs.bind_bad]; exact ⟨rfl, rfl, gb_trans D.st.gb g5⟩
          have r5 := (D.step bl s5 (by omega)).row
          refine hK.out _ _ trivial (fun _ => ?_)
          clear hK K
          refine wpAnyH_ready (rs := [4]) (by kernel_rfl) (by simp) ?_
          refine .cons rfl (fun K hK => ?_) .nil
          go_simp
          have r6 : rowAt (w5.alloc (.cells c5.cells 31)) _ = _ := (rowAt_old _ _ _ (Nat.ne_of_lt (Nat.lt_of_lt_of_le lD.1 hs5))).trans r5
          refine hK.out _ _ trivial (fun _ => ?_)
          clear hK K
          refine wpAnyH_ready (rs := [5]) (by kernel_rfl) (by simp) ?_
          refine .cons rfl (fun K hK => ?_) .nil
          obtain ⟨g6, N6, cp6, Y6, hrun6, rY6, fY6, F6⟩ := D.push (W := w5.alloc (.cells c5.cells 31)) bl gl s5 nd5 (by have := A6.out.2.2; omega) rfl
          clear s5 nd5
          go_simp
          refine hK.out _ _ trivial (fun _ => ?_)
          clear hK K
          refine wpAnyH_ready (rs := [6]) (by kernel_rfl) (by simp) ?_
          refine .cons rfl (fun K hK => ?_) .nil
          go_simp
          refine hK.out _ _ trivial (fun _ => ?_)
          clear hK K
          refine wpAnyH_ready (rs := [7]) (by kernel_rfl) (by simp) ?_
          refine .cons rfl (fun K hK => ?_) .nil
          have cY := rowAt_cell rY6
          go_simp
          refine hK.out _ _ trivial (fun _ => ?_)
          clear hK K
          refine wpAnyH_done (by kernel_rfl) ?_ _
          have A7 : Hid (FN w _ b g cap L i5x (o + 1) w.heap.size w2.heap.size (w2.heap.size + 1) 20 [] false tk.p _ _ _ (l ++ [N9] ++ [n5x]) ∧ j < i5x ∧ (if wd (L.drop i5x) = [69, 76, 83, 73, 70] then runS f1 (.br [68, 79] (l ++ [N9] ++ [n5x])) (o + 1) (L.drop i5x).tail else .ok (lst (l ++ [N9] ++ [n5x])) (L.drop i5x)) = R) := ⟨F6.out, by omega, by rw [← A6.out.2.1, hy5, Rs.bind_ok, ht5, List.append_assoc]; rfl⟩
          have hi7 := A7.out.2.1
          clear F6 hy5 ht5
          go_wp2_with (go_at_call 32; by_cases hw : wd (L.drop i5x) = [69, 76, 83, 73, 70] <;> first
            | (refine (found_yes _ b g cap L i5x (o + 1) A7.out.1.st.rd [69, 76, 83, 73, 70] (by decide) hw).mono ?_; rintro e w8 ⟨rfl, s8⟩; have K7 : Hid (∀ gf, (L.length - i5x - 1) * 2 + 2 ≤ gf → LpC f w w8 b g cap L i (o + 1) w2.heap.size (w2.heap.size + 1) 20 tk.p [68, 79] R (.bool true) gf) := (fun gf hgf => ⟨i5x + 1, _, _, _, _, A7.out.1.step bl s8 (by omega), by omega, .inl ⟨rfl, f1 - 1, by omega, by rw [show f1 - 1 + 1 = f1 by omega]; have := A7.out.2.2; rwa [if_pos hw, List.tail_drop] at this, by omega, by omega⟩⟩); have il8 := s8.rd.il; clear hw A7)
            | (refine (found_no _ b g cap L i5x (o + 1) A7.out.1.st.rd [69, 76, 83, 73, 70] hw).mono ?_; rintro e w8 ⟨rfl, hb8⟩; have K8 : Hid (∀ gf, 1 ≤ gf → LpC f w w8 b g cap L i (o + 1) w2.heap.size (w2.heap.size + 1) 20 tk.p [68, 79] R (.bool false) gf) := (fun gf hgf => ⟨i5x, _, _, _, _, A7.out.1.below bl hb8, by omega, .inr ⟨rfl, by have := A7.out.2.2; rwa [if_neg hw] at this, hgf⟩⟩); clear hw A7))
          all_goals first
            | (have hK := K7.out
               go_roundg g'
               case measure => omega
               case rel => exact hK _ (by omega))
            | (have hK := K8.out
               go_roundg g'
               case measure => omega
               case rel => exact hK _ (by omega))
        · go_simp
          go_wp2_with (go_at_call 41; refine (BL.out _ (i5 + 1) (by omega) D.st.rd).mono ?_; intro e w5 hP; rcases postB_or hP with ⟨n5x, t5, c5, i5x, hy5, rfl, ht5, hi5x, s5, nd5⟩ | ⟨p5, er5, hy5, he, g5⟩ <;> first | (have hs5 := s5.size; clear hP) | (unfold gaveUp at he; subst he))
          rotate_left
          · rw [← A6.out.2.1, hy5, Rs.bind_bad, Rs.bind_bad]; exact ⟨rfl, rfl, gb_trans D.st.gb g5⟩
          have r5 := (D.step bl s5 (by omega)).row
          refine hK.out _ _ trivial (fun _ => ?_)
          clear hK K
          refine wpAnyH_ready (rs := [1, 4]) (by kernel_rfl) (by simp) ?_
          refine .cons rfl (fun K hK => ?_) (.cons rfl (fun K hK => ?_) .nil)
          · have cL := rowAt_cell r5
            go_simp
            refine hK.out _ _ trivial (fun _ => ?_)
            clear hK K
            refine wpAnyH_ready (rs := [4]) (by kernel_rfl) (by simp) ?_
            refine .cons rfl (fun K hK => ?_) .nil
            go_simp
            have r6 : rowAt (w5.alloc (.cells c5.cells 31)) _ = _ := (rowAt_old _ _ _ (Nat.ne_of_lt (Nat.lt_of_lt_of_le lD.1 hs5))).trans r5
            refine hK.out _ _ trivial (fun _ => ?_)
            clear hK K
            refine wpAnyH_ready (rs := [5]) (by kernel_rfl) (by simp) ?_
            refine .cons rfl (fun K hK => ?_) .nil
            obtain ⟨g6, N6, cp6, Y6, hrun6, rY6, fY6, F6⟩ := D.push (W := w5.alloc (.cells c5.cells 31)) bl gl s5 nd5 (by have := A6.out.2.2; omega) rfl
            clear s5 nd5
            go_simp
            refine hK.out _ _ trivial (fun _ => ?_)
            clear hK K
            refine wpAnyH_ready (rs := [6]) (by kernel_rfl) (by simp) ?_
            refine .cons rfl (fun K hK => ?_) .nil
            go_simp
            refine hK.out _ _ trivial (fun _ => ?_)
            clear hK K
            refine wpAnyH_ready (rs := [7]) (by kernel_rfl) (by simp) ?_
            refine .cons rfl (fun K hK => ?_) .nil
            have cY := rowAt_cell rY6
            go_simp
            refine hK.out _ _ trivial (fun _ => ?_)
            clear hK K
            refine wpAnyH_done (by kernel_rfl) ?_ _
            have A7 : Hid (FN w _ b g cap L i5x (o + 1) w.heap.size w2.heap.size (w2.heap.size + 1) 20 [] false tk.p _ _ _ (l ++ [N9] ++ [n5x]) ∧ j < i5x ∧ (if wd (L.drop i5x) = [69, 76, 83, 73, 70] then runS f1 (.br [68, 79] (l ++ [N9] ++ [n5x])) (o + 1) (L.drop i5x).tail else .ok (lst (l ++ [N9] ++ [n5x])) (L.drop i5x)) = R) := ⟨F6.out, by omega, by rw [← A6.out.2.1, hy5, Rs.bind_ok, ht5, List.append_assoc]; rfl⟩
            have hi7 := A7.out.2.1
            clear F6 hy5 ht5
            go_wp2_with (go_at_call 32; by_cases hw : wd (L.drop i5x) = [69, 76, 83, 73, 70] <;> first
              | (refine (found_yes _ b g cap L i5x (o + 1) A7.out.1.st.rd [69, 76, 83, 73, 70] (by decide) hw).mono ?_; rintro e w8 ⟨rfl, s8⟩; have K7 : Hid (∀ gf, (L.length - i5x - 1) * 2 + 2 ≤ gf → LpC f w w8 b g cap L i (o + 1) w2.heap.size (w2.heap.size + 1) 20 tk.p [68, 79] R (.bool true) gf) := (fun gf hgf => ⟨i5x + 1, _, _, _, _, A7.out.1.step bl s8 (by omega), by omega, .inl ⟨rfl, f1 - 1, by omega, by rw [show f1 - 1 + 1 = f1 by omega]; have := A7.out.2.2; rwa [if_pos hw, List.tail_drop] at this, by omega, by omega⟩⟩); have il8 := s8.rd.il; clear hw A7)
              | (refine (found_no _ b g cap L i5x (o + 1) A7.out.1.st.rd [69, 76, 83, 73, 70] hw).mono ?_; rintro e w8 ⟨rfl, hb8⟩; have K8 : Hid (∀ gf, 1 ≤ gf → LpC f w w8 b g cap L i (o + 1) w2.heap.size (w2.heap.size + 1) 20 tk.p [68, 79] R (.bool false) gf) := (fun gf hgf => ⟨i5x, _, _, _, _, A7.out.1.below bl hb8, by omega, .inr ⟨rfl, by have := A7.out.2.2; rwa [if_neg hw] at this, hgf⟩⟩); clear hw A7))
            all_goals first
              | (have hK := K7.out
                 go_roundg g'
                 case measure => omega
                 case rel => exact hK _ (by omega))
              | (have hK := K8.out
                 go_roundg g'
                 case measure => omega
                 case rel => exact hK _ (by omega))
          · go_simp
            have r6 : rowAt (w5.alloc (.cells c5.cells 31)) _ = _ := (rowAt_old _ _ _ (Nat.ne_of_lt (Nat.lt_of_lt_of_le lD.1 hs5))).trans r5
            refine hK.out _ _ trivial (fun _ => ?_)
            clear hK K
            refine wpAnyH_ready (rs := [1]) (by kernel_rfl) (by simp) ?_
            refine .cons rfl (fun K hK => ?_) .nil
            have cL := rowAt_cell r6
            go_simp
            refine hK.out _ _ trivial (fun _ => ?_)
            clear hK K
            refine wpAnyH_ready (rs := [5]) (by kernel_rfl) (by simp) ?_
            refine .cons rfl (fun K hK => ?_) .nil
            obtain ⟨g6, N6, cp6, Y6, hrun6, rY6, fY6, F6⟩ := D.push (W := w5.alloc (.cells c5.cells 31)) bl gl s5 nd5 (by have := A6.out.2.2; omega) rfl
            clear s5 nd5
            go_simp
            refine hK.out _ _ trivial (fun _ => ?_)
            clear hK K
            refine wpAnyH_ready (rs := [6]) (by kernel_rfl) (by simp) ?_
            refine .cons rfl (fun K hK => ?_) .nil
            go_simp
            refine hK.out _ _ trivial (fun _ => ?_)
            clear hK K
            refine wpAnyH_ready (rs := [7]) (by kernel_rfl) (by simp) ?_
            refine .cons rfl (fun K hK => ?_) .nil
            have cY := rowAt_cell rY6
            go_simp
            refine hK.out _ _ trivial (fun _ => ?_)
            clear hK K
            refine wpAnyH_done (by kernel_rfl) ?_ _
            have A7 : Hid (FN w _ b g cap L i5x (o + 1) w.heap.size w2.heap.size (w2.heap.size + 1) 20 [] false tk.p _ _ _ (l ++ [N9] ++ [n5x]) ∧ j < i5x ∧ (if wd (L.drop i5x) = [69, 76, 83, 73, 70] then runS f1 (.br [68, 79] (l ++ [N9] ++ [n5x])) (o + 1) (L.drop i5x).tail else .ok (lst (l ++ [N9] ++ [n5x])) (L.drop i5x)) = R) := ⟨F6.out, by omega, by rw [← A6.out.2.1, hy5, Rs.bind_ok, ht5, List.append_assoc]; rfl⟩
            have hi7 := A7.out.2.1
            clear F6 hy5 ht5
            go_wp2_with (go_at_call 32; by_cases hw : wd (L.drop i5x) = [69, 76, 83, 73, 70] <;> first
              | (refine (found_yes _ b g cap L i5x (o + 1) A7.out.1.st.rd [69, 76, 83, 73, 70] (by decide) hw).mono ?_; rintro e w8 ⟨rfl, s8⟩; have K7 : Hid (∀ gf, (L.length - i5x - 1) * 2 + 2 ≤ gf → LpC f w w8 b g cap L i (o + 1) w2.heap.size (w2.heap.size + 1) 20 tk.p [68, 79] R (.bool true) gf) := (fun gf hgf => ⟨i5x + 1, _, _, _, _, A7.out.1.step bl s8 (by omega), by omega, .inl ⟨rfl, f1 - 1, by omega, by rw [show f1 - 1 + 1 = f1 by omega]; have := A7.out.2.2; rwa [if_pos hw, List.tail_drop] at this, by omega, by omega⟩⟩); have il8 := s8.rd.il; clear hw A7)
              | (refine (found_no _ b g cap L i5x (o + 1) A7.out.1.st.rd [69, 76, 83, 73, 70] hw).mono ?_; rintro e w8 ⟨rfl, hb8⟩; have K8 : Hid (∀ gf, 1 ≤ gf → LpC f w w8 b g cap L i (o + 1) w2.heap.size (w2.heap.size + 1) 20 tk.p [68, 79] R (.bool false) gf) := (fun gf hgf => ⟨i5x, _, _, _, _, A7.out.1.below bl hb8, by omega, .inr ⟨rfl, by have := A7.out.2.2; rwa [if_neg hw] at this, hgf⟩⟩); clear hw A7))
            all_goals first
              | (have hK := K7.out
                 go_roundg g'
                 case measure => omega
                 case rel => exact hK _ (by omega))
              | (have hK := K8.out
                 go_roundg g'
                 case measure => omega
                 case rel => exact hK _ (by omega))
      · have HR : Hid (.ok (lst l) (L.drop j) = R) := hrun
        clear hrun
        have A11 : Hid (FN w wr b g cap L j (o + 1) w.heap.size w2.heap.size (w2.heap.size + 1) 20 [] false tk.p a N m l ∧ ((mustR [69, 78, 68] (L.drop j)).bind fun _ v => Rs.ok (Nd.mk 20 [] 0 false l tk.p) v) = R.bind (fun l s => (mustR [69, 78, 68] s).bind fun _ v => Rs.ok (Nd.mk 20 [] 0 false l.kids tk.p) v)) := ⟨AJ.out, by rw [← HR.out, Rs.bind_ok]; rfl⟩
        clear AJ
        go_wp2_with (first
          | (go_at_call 30; refine (must_any _ b g cap L j (o + 1) A11.out.1.st.rd [69, 78, 68] (by decide)).mono ?_; intro e w12 hP; rcases postT_or hP with ⟨x12, u12x, hm12, rfl, ht12, s12⟩ | ⟨p12, er12, hm12, he, g12⟩ <;> first
          | (have hs12 := s12.size; have A12 : Hid (FN w w12 b g cap L (j + 1) (o + 1) w.heap.size w2.heap.size (w2.heap.size + 1) 20 [] false tk.p a N m l ∧ Rs.ok (Nd.mk 20 [] 0 false l tk.p) (L.drop (j + 1)) = (R.bind (fun l s => (mustR [69, 78, 68] s).bind fun _ v => Rs.ok (Nd.mk 20 [] 0 false l.kids tk.p) v))) := ⟨A11.out.1.step bl s12 (by omega), by rw [← A11.out.2, hm12, Rs.bind_ok, ht12]⟩; clear hP hm12 ht12 s12)
          | (unfold gaveUp at he; subst he))
          | (go_at_call 77; refine (end_any _ b g cap L (j + 1) o A12.out.1.st.rd).mono ?_; rintro e w13 ⟨rfl, s13⟩; have A13 := A12.out.1.step bl s13 (Nat.le_refl _); have r13 := A13.row; have m13 := A13.res; have H13 : Hid (FN w w13 b g cap L (j + 1) o w.heap.size w2.heap.size (w2.heap.size + 1) 20 [] false tk.p a N m l) := A13; clear A13))
        all_goals first
          | (rw [← A11.out.2, hm12, Rs.bind_bad]; exact ⟨rfl, rfl, gb_trans A11.out.1.st.gb g12⟩)
          | (rw [← A12.out.2]; exact ret_cell1 rfl rfl (loadNd_row (rowNd_put _ _ _ m13)) rfl (H13.out.fin bl gl (by omega)))
end Go.Proofs.YtllhcjmabhempaaDoor

namespace Go.Proofs.YtllhcjmabhempaaDoor
set_option linter.unusedVariables false
set_option linter.unusedSimpArgs false
open Go.ChangeShapes Go.WideShapes Go.ChangeAt Go.RowKit


attribute [local go_sem] fieldTk0 fieldTk1 fieldTk3 hmf
attribute [local go_sem ↓] bslNd_seal
attribute [local go_sem] bslNd1_run bslNd2_run
attribute [local go_sem ↓] appN_seal
def iffR (f o : Nat) (t : List Tok) : Rs Nd := (beginR o t).bind fun x r => (runS f (.br [84, 72, 69, 78] []) (o + 1) r).bind (fun (l : Nd) s => (if wd s = [69, 76, 83, 69] then (blkR f (o + 1) s.tail).bind fun y u => Rs.ok (lst (l.kids ++ [y])) u else .ok l s).bind fun l u => (mustR [69, 78, 68] u).bind fun _ v => Rs.ok (Nd.mk 19 [] 0 false l.kids x.p) v)
set_option maxHeartbeats 8000000 in
set_option maxRecDepth 20000 in
theorem iff_step (f : Nat) (hB : ∀ f', f' ≤ f → PsB f') (w : World) (b g cap : Nat) (L : List Tok) (i o : Nat) (h : RdAt w b g cap L i o) (hk0 : (hd (L.drop i)).k ≠ 0) (hf : (L.length - i) * 4 ≤ f) : Calls Tryd.prog 70 #[.pointer (some ⟨b, 0, none⟩), .int .i64 19, .string (bs [84, 72, 69, 78])] w (PostN w b g cap L i o (iffR f o (L.drop i))) := by
  have bl := h.bl
  have gl := h.gl
  have hil := h.il
  have hol := h.ol
  have H : Hid (RdAt w b g cap L i o) := h
  unfold iffR beginR
  by_cases ho : o = 24
  · subst ho
    rw [if_pos rfl, Rs.bind_bad]
    have BN : Hid (∀ X, RdAt X b g cap L i 24 → Calls Tryd.prog 76 #[.pointer (some ⟨b, 0, none⟩)] X _) := fun X hX => begin_no X b g cap L i hX
    clear h hB
    generalize (hd (L.drop i)).p = p at BN ⊢
    go_enter Tryd.func70, Tryd.ntmps70
    go_wp2_with (go_at_call 76; refine (BN.out _ (H.out.alloc _)).mono ?_; rintro e w2 ⟨he, g2⟩; unfold gaveUp at he; subst he)
    exact ⟨rfl, rfl, gb_trans ((St.refl H.out).alloc _).gb g2⟩
  · rw [if_neg ho, Rs.bind_ok, List.tail_drop]
    have BY : Hid (∀ X, RdAt X b g cap L i o → Calls Tryd.prog 76 #[.pointer (some ⟨b, 0, none⟩)] X _) := fun X hX => begin_yes X b g cap L i o hX (by omega) hk0
    have hn : i + 1 < L.length := h.last i h.il (by rw [← h.hd]; exact hk0)
    have HB : Hid (∀ f', f' ≤ f → PsB f') := hB
    clear h hB hk0
    generalize hd (L.drop i) = tk at BY ⊢
    have e0 : tk.tk.p = (tk.p : Int) := rfl
    generalize hR : runS f (.br [84, 72, 69, 78] []) (o + 1) (L.drop (i + 1)) = R
    have HR : Hid (runS f (.br [84, 72, 69, 78] []) (o + 1) (L.drop (i + 1)) = R) := hR
    clear hR
    obtain ⟨f0, hf0⟩ : ∃ f0, f = f0 + 1 := ⟨f - 1, by omega⟩
    go_enter Tryd.func70, Tryd.ntmps70
    go_wp2_with (first
      | (go_at_call 76; refine (BY.out _ (H.out.alloc _)).mono ?_; rintro e w1 ⟨rfl, s1⟩; have hs1 := s1.size; simp at hs1; have B1 : Hid (St w w1 b g cap L (i + 1) (o + 1)) := ((St.refl H.out).alloc _).next s1; have m1 : roomAt w1 w.heap.size 6 = true := (s1.room (by simp) (by omega) 6).trans (roomNd_new _ _ _ _ (by simp)))
      | (go_at_call 59; refine (node_any _ _ _ _ _ _).mono ?_; rintro e w2 ⟨rfl, hb2⟩; have hs2 := hb2.size; have A2 : Hid (FN w (w2.alloc (.cells (⟨19, ⟨#[]⟩, 0, false, none, 0, 0, (tk.p : Int)⟩ : Nc).cells 31)) b g cap L (i + 1) (o + 1) w.heap.size w2.heap.size (w2.heap.size + 1) 19 [] false tk.p none 0 0 []) := FN.new (B1.out.below hb2) ((roomAt_below hb2 _ _ (by omega)).trans m1) (Nat.le_refl _) (by omega) rfl))
    go_loopg [8] (L.length * 2 + 3) (fun gf s8 X => LpC f w X b g cap L i (o + 1) w2.heap.size (w2.heap.size + 1) 19 tk.p [84, 72, 69, 78] R s8 gf)
    case atStart => exact ⟨i + 1, [], none, 0, 0, A2.out, by omega, .inl ⟨rfl, f0, by omega, by rw [← hf0]; exact HR.out, by omega, by omega⟩⟩
    case round =>
      obtain ⟨j, l, a, N, m, FJ, hij, hv⟩ := hrel
      have AJ : Hid (FN w wr b g cap L j (o + 1) w.heap.size w2.heap.size (w2.heap.size + 1) 19 [] false tk.p a N m l) := FJ
      have hjl := FJ.st.rd.il
      have hlt := FJ.lt
      have hle := FJ.len
      have hsz := FJ.st.size
      clear FJ A2 B1 m1 HR hb2 BY
      rcases hv with ⟨rfl, f1, hf1, hrun, hfu, hg⟩ | ⟨rfl, hrun, hg⟩
      · obtain ⟨g', rfl⟩ : ∃ g', gk = g' + 1 := ⟨gk - 1, by omega⟩
        rw [br_eq] at hrun
        have HR : Hid (((exprR (o + 1) (L.drop j)).bind fun c r => (mustR [84, 72, 69, 78] r).bind fun _ u => (blkR f1 (o + 1) u).bind fun y v => if wd v = [69, 76, 83, 73, 70] then runS f1 (.br [84, 72, 69, 78] (l ++ [c, y])) (o + 1) v.tail else .ok (lst (l ++ [c, y])) v) = R) := hrun
        clear hrun
        have BL : Hid (∀ X j2, j < j2 → RdAt X b g cap L j2 (o + 1) → Calls Tryd.prog 41 #[.pointer (some ⟨b, 0, none⟩)] X (PostB X b g cap L j2 (o + 1) (blkR f1 (o + 1) (L.drop j2)))) := fun X j2 hj hX => HB.out f1 (by omega) X b g cap L j2 (o + 1) hX (by omega)
        go_upto_region 5 with fail
        go_cut [] from 14 to 33 (fun Y => ∃ n5 i5 a5 N5 m5, Hid (FN w Y b g cap L i5 (o + 1) w.heap.size w2.heap.size (w2.heap.size + 1) 19 [] false tk.p a5 N5 m5 (l ++ [n5]) ∧ j < i5 ∧ ((mustR [84, 72, 69, 78] (L.drop i5)).bind fun _ u => (blkR f1 (o + 1) u).bind fun y v => if wd v = [69, 76, 83, 73, 70] then runS f1 (.br [84, 72, 69, 78] (l ++ [n5, y])) (o + 1) v.tail else .ok (lst (l ++ [n5, y])) v) = R))
        case first =>
          have D := (AJ.out).drew bl
          have rD := D.row
          have lD := D.lt
          refine wp_region_held_drew (S := (fun _ => True)) (by kernel_rfl) trivial (fun hHeld => ?_)
          refine wpAnyH_take (i := 0) (v := ?_) rfl (by kernel_rfl) (by kernel_rfl) (by kernel_rfl) (fun _ _ _ h => h) (Or.inl ⟨by rfl, ?y0a⟩) hHeld ?r0a
          case y0a => (intro w2 hSw; (try dsimp only at hSw); go_simp; try rfl)
          simp only [Act.put, List.setIfInBounds_toArray, List.set_cons_zero, List.set_cons_succ]
          refine wpAnyH_take (i := 2) (v := ?_) rfl (by kernel_rfl) (by kernel_rfl) (by kernel_rfl) (fun _ _ _ h => h) (Or.inl ⟨by rfl, ?y2a⟩) hHeld ?r2a
          case y2a => (intro w2 hSw; (try dsimp only at hSw); go_simp; try rfl)
          simp only [Act.put, List.setIfInBounds_toArray, List.set_cons_zero, List.set_cons_succ]
          refine wpAnyH_ready (rs := [1, 3]) (by kernel_rfl) (by simp) ?_
          refine .cons rfl (fun K hK => ?_) (.cons rfl (fun K hK => ?_) .nil)
          · have cL := rowAt_cell rD
            go_simp
            refine hK.out _ _ trivial (fun _ => ?_)
            clear hK K
            refine wpAnyH_ready (rs := [3]) (by kernel_rfl) (by simp) ?_
            refine .cons rfl (fun K hK => ?_) .nil
            go_simp
            go_wp2_with (go_at_call 16; refine (expression_any _ b g cap L j (o + 1) D.st.rd).mono ?_; intro e w5 hP; rcases postN_or hP with ⟨n5, t5, c5, i5, hy5, rfl, ht5, hi5, s5, nd5⟩ | ⟨p5, er5, hy5, he, g5⟩ <;> first | (have hs5 := s5.size; clear hP) | (unfold gaveUp at he; subst he))
            rotate_left
            · rw [← HR.out, hy5, Rs.bind_bad, Rs.bind_bad]; exact ⟨rfl, rfl, gb_trans D.st.gb g5⟩
            have r5 := (D.step bl s5 (by omega)).row
            refine hK.out _ _ trivial (fun _ => ?_)
            clear hK K
            refine wpAnyH_ready (rs := [4]) (by kernel_rfl) (by simp) ?_
            refine .cons rfl (fun K hK => ?_) .nil
            go_simp
            have r6 : rowAt (w5.alloc (.cells c5.cells 31)) _ = _ := (rowAt_old _ _ _ (Nat.ne_of_lt (Nat.lt_of_lt_of_le lD.1 hs5))).trans r5
            refine hK.out _ _ trivial (fun _ => ?_)
            clear hK K
            refine wpAnyH_ready (rs := [5]) (by kernel_rfl) (by simp) ?_
            refine .cons rfl (fun K hK => ?_) .nil
            obtain ⟨g6, N6, cp6, Y6, hrun6, rY6, fY6, F6⟩ := D.push (W := w5.alloc (.cells c5.cells 31)) bl gl s5 nd5 (by omega) rfl
            clear s5 nd5
            go_simp
            refine hK.out _ _ trivial (fun _ => ?_)
            clear hK K
            refine wpAnyH_ready (rs := [6]) (by kernel_rfl) (by simp) ?_
            refine .cons rfl (fun K hK => ?_) .nil
            go_simp
            refine hK.out _ _ trivial (fun _ => ?_)
            clear hK K
            refine wpAnyH_ready (rs := [7]) (by kernel_rfl) (by simp) ?_
            refine .cons rfl (fun K hK => ?_) .nil
            have cY := rowAt_cell rY6
            go_simp
            refine hK.out _ _ trivial (fun _ => ?_)
            clear hK K
            refine wpAnyH_done (by kernel_rfl) ?_ _
            go_wp2_with fail
            go_meet
            exact ⟨n5, i5, _, _, _, F6.out, by omega, by rw [← HR.out, hy5, Rs.bind_ok, ht5]⟩
          · go_simp
            go_wp2_with (go_at_call 16; refine (expression_any _ b g cap L j (o + 1) D.st.rd).mono ?_; intro e w5 hP; rcases postN_or hP with ⟨n5, t5, c5, i5, hy5, rfl, ht5, hi5, s5, nd5⟩ | ⟨p5, er5, hy5, he, g5⟩ <;> first | (have hs5 := s5.size; clear hP) | (unfold gaveUp at he; subst he))
            rotate_left
            · rw [← HR.out, hy5, Rs.bind_bad, Rs.bind_bad]; exact ⟨rfl, rfl, gb_trans D.st.gb g5⟩
            have r5 := (D.step bl s5 (by omega)).row
            refine hK.out _ _ trivial (fun _ => ?_)
            clear hK K
            refine wpAnyH_ready (rs := [1, 4]) (by kernel_rfl) (by simp) ?_
            refine .cons rfl (fun K hK => ?_) (.cons rfl (fun K hK => ?_) .nil)
            · have cL := rowAt_cell r5
              go_simp
              refine hK.out _ _ trivial (fun _ => ?_)
              clear hK K
              refine wpAnyH_ready (rs := [4]) (by kernel_rfl) (by simp) ?_
              refine .cons rfl (fun K hK => ?_) .nil
              go_simp
              have r6 : rowAt (w5.alloc (.cells c5.cells 31)) _ = _ := (rowAt_old _ _ _ (Nat.ne_of_lt (Nat.lt_of_lt_of_le lD.1 hs5))).trans r5
              refine hK.out _ _ trivial (fun _ => ?_)
              clear hK K
              refine wpAnyH_ready (rs := [5]) (by kernel_rfl) (by simp) ?_
              refine .cons rfl (fun K hK => ?_) .nil
              obtain ⟨g6, N6, cp6, Y6, hrun6, rY6, fY6, F6⟩ := D.push (W := w5.alloc (.cells c5.cells 31)) bl gl s5 nd5 (by omega) rfl
              clear s5 nd5
              go_simp
              refine hK.out _ _ trivial (fun _ => ?_)
              clear hK K
              refine wpAnyH_ready (rs := [6]) (by kernel_rfl) (by simp) ?_
              refine .cons rfl (fun K hK => ?_) .nil
              go_simp
              refine hK.out _ _ trivial (fun _ => ?_)
              clear hK K
              refine wpAnyH_ready (rs := [7]) (by kernel_rfl) (by simp) ?_
              refine .cons rfl (fun K hK => ?_) .nil
              have cY := rowAt_cell rY6
              go_simp
              refine hK.out _ _ trivial (fun _ => ?_)
              clear hK K
              refine wpAnyH_done (by kernel_rfl) ?_ _
              go_wp2_with fail
              go_meet
              exact ⟨n5, i5, _, _, _, F6.out, by omega, by rw [← HR.out, hy5, Rs.bind_ok, ht5]⟩
            · go_simp
              have r6 : rowAt (w5.alloc (.cells c5.cells 31)) _ = _ := (rowAt_old _ _ _ (Nat.ne_of_lt (Nat.lt_of_lt_of_le lD.1 hs5))).trans r5
              refine hK.out _ _ trivial (fun _ => ?_)
              clear hK K
              refine wpAnyH_ready (rs := [1]) (by kernel_rfl) (by simp) ?_
              refine .cons rfl (fun K hK => ?_) .nil
              have cL := rowAt_cell r6
              go_simp
              refine hK.out _ _ trivial (fun _ => ?_)
              clear hK K
              refine wpAnyH_ready (rs := [5]) (by kernel_rfl) (by simp) ?_
              refine .cons rfl (fun K hK => ?_) .nil
              obtain ⟨g6, N6, cp6, Y6, hrun6, rY6, fY6, F6⟩ := D.push (W := w5.alloc (.cells c5.cells 31)) bl gl s5 nd5 (by omega) rfl
              clear s5 nd5
              go_simp
              refine hK.out _ _ trivial (fun _ => ?_)
              clear hK K
              refine wpAnyH_ready (rs := [6]) (by kernel_rfl) (by simp) ?_
              refine .cons rfl (fun K hK => ?_) .nil
              go_simp
              refine hK.out _ _ trivial (fun _ => ?_)
              clear hK K
              refine wpAnyH_ready (rs := [7]) (by kernel_rfl) (by simp) ?_
              refine .cons rfl (fun K hK => ?_) .nil
              have cY := rowAt_cell rY6
              go_simp
              refine hK.out _ _ trivial (fun _ => ?_)
              clear hK K
              refine wpAnyH_done (by kernel_rfl) ?_ _
              go_wp2_with fail
              go_meet
              exact ⟨n5, i5, _, _, _, F6.out, by omega, by rw [← HR.out, hy5, Rs.bind_ok, ht5]⟩
        case rest =>
        obtain ⟨N9, i5, a5, N5, m5, A5⟩ := hcut
        have hi5 := A5.out.2.1
        go_upto_region 7 with (go_at_call 30; refine (must_any _ b g cap L i5 (o + 1) A5.out.1.st.rd [84, 72, 69, 78] (by decide)).mono ?_; intro e w6 hP; rcases postT_or hP with ⟨x6, u6, hm6, rfl, ht6, s6⟩ | ⟨p6, er6, hm6, he, g6⟩ <;> first
          | (have hs6 := s6.size; have A6 : Hid (FN w w6 b g cap L (i5 + 1) (o + 1) w.heap.size w2.heap.size (w2.heap.size + 1) 19 [] false tk.p a5 N5 m5 (l ++ [N9]) ∧ ((blkR f1 (o + 1) (L.drop (i5 + 1))).bind fun y v => if wd v = [69, 76, 83, 73, 70] then runS f1 (.br [84, 72, 69, 78] (l ++ [N9, y])) (o + 1) v.tail else .ok (lst (l ++ [N9, y])) v) = R ∧ (l ++ [N9]).length ≤ i5) := ⟨A5.out.1.step bl s6 (by omega), by rw [← A5.out.2.2, hm6, Rs.bind_ok, ht6], A5.out.1.len⟩; clear hP hm6 ht6 s6)
          | (unfold gaveUp at he; subst he))
        rotate_left
        · rw [← A5.out.2.2, hm6, Rs.bind_bad, Rs.bind_bad]; exact ⟨rfl, rfl, gb_trans A5.out.1.st.gb g6⟩
        have D := (A6.out.1).drew bl
        have rD := D.row
        have lD := D.lt
        refine wp_region_held_drew (S := (fun _ => True)) (by kernel_rfl) trivial (fun hHeld => ?_)
        refine wpAnyH_take (i := 0) (v := ?_) rfl (by kernel_rfl) (by kernel_rfl) (by kernel_rfl) (fun _ _ _ h => h) (Or.inl ⟨by rfl, ?y0b⟩) hHeld ?r0b
        case y0b => (intro w2 hSw; (try dsimp only at hSw); go_simp; try rfl)
        simp only [Act.put, List.setIfInBounds_toArray, List.set_cons_zero, List.set_cons_succ]
        refine wpAnyH_take (i := 2) (v := ?_) rfl (by kernel_rfl) (by kernel_rfl) (by kernel_rfl) (fun _ _ _ h => h) (Or.inl ⟨by rfl, ?y2b⟩) hHeld ?r2b
        case y2b => (intro w2 hSw; (try dsimp only at hSw); go_simp; try rfl)
        simp only [Act.put, List.setIfInBounds_toArray, List.set_cons_zero, List.set_cons_succ]
        refine wpAnyH_ready (rs := [1, 3]) (by kernel_rfl) (by simp) ?_
        refine .cons rfl (fun K hK => ?_) (.cons rfl (fun K hK => ?_) .nil)
        · have cL := rowAt_cell rD
          go_simp
          refine hK.out _ _ trivial (fun _ => ?_)
          clear hK K
          refine wpAnyH_ready (rs := [3]) (by kernel_rfl) (by simp) ?_
          refine .cons rfl (fun K hK => ?_) .nil
          go_simp
          go_wp2_with (go_at_call 41; refine (BL.out _ (i5 + 1) (by omega) D.st.rd).mono ?_; intro e w5 hP; rcases postB_or hP with ⟨n5x, t5, c5, i5x, hy5, rfl, ht5, hi5x, s5, nd5⟩ | ⟨p5, er5, hy5, he, g5⟩ <;> first | (have hs5 := s5.size; clear hP) | (unfold gaveUp at he; subst he))
          rotate_left
          · rw [← A6.out.2.1, hy5, Rs.bind_bad, Rs.bind_bad]; exact ⟨rfl, rfl, gb_trans D.st.gb g5⟩
          have r5 := (D.step bl s5 (by omega)).row
          refine hK.out _ _ trivial (fun _ => ?_)
          clear hK K
          refine wpAnyH_ready (rs := [4]) (by kernel_rfl) (by simp) ?_
          refine .cons rfl (fun K hK => ?_) .nil
          go_simp
          have r6 : rowAt (w5.alloc (.cells c5.cells 31)) _ = _ := (rowAt_old _ _ _ (Nat.ne_of_lt (Nat.lt_of_lt_of_le lD.1 hs5))).trans r5
          refine hK.out _ _ trivial (fun _ => ?_)
          clear hK K
          refine wpAnyH_ready (rs := [5]) (by kernel_rfl) (by simp) ?_
          refine .cons rfl (fun K hK => ?_) .nil
          obtain ⟨g6, N6, cp6, Y6, hrun6, rY6, fY6, F6⟩ := D.push (W := w5.alloc (.cells c5.cells 31)) bl gl s5 nd5 (by have := A6.out.2.2; omega) rfl
          clear s5 nd5
          go_simp
          refine hK.out _ _ trivial (fun _ => ?_)
          clear hK K
          refine wpAnyH_ready (rs := [6]) (by kernel_rfl) (by simp) ?_
          refine .cons rfl (fun K hK => ?_) .nil
          go_simp
          refine hK.out _ _ trivial (fun _ => ?_)
          clear hK K
          refine wpAnyH_ready (rs := [7]) (by kernel_rfl) (by simp) ?_
          refine .cons rfl (fun K hK => ?_) .nil
          have cY := rowAt_cell rY6
          go_simp
          refine hK.out _ _ trivial (fun _ => ?_)
          clear hK K
          refine wpAnyH_done (by kernel_rfl) ?_ _
          have A7 : Hid (FN w _ b g cap L i5x (o + 1) w.heap.size w2.heap.size (w2.heap.size + 1) 19 [] false tk.p _ _ _ (l ++ [N9] ++ [n5x]) ∧ j < i5x ∧ (if wd (L.drop i5x) = [69, 76, 83, 73, 70] then runS f1 (.br [84, 72, 69, 78] (l ++ [N9] ++ [n5x])) (o + 1) (L.drop i5x).tail else .ok (lst (l ++ [N9] ++ [n5x])) (L.drop i5x)) = R) := ⟨F6.out, by omega, by rw [← A6.out.2.1, hy5, Rs.bind_ok, ht5, List.append_assoc]; rfl⟩
          have hi7 := A7.out.2.1
          clear F6 hy5 ht5
          go_wp2_with (go_at_call 32; by_cases hw : wd (L.drop i5x) = [69, 76, 83, 73, 70] <;> first
            | (refine (found_yes _ b g cap L i5x (o + 1) A7.out.1.st.rd [69, 76, 83, 73, 70] (by decide) hw).mono ?_; rintro e w8 ⟨rfl, s8⟩; have K7 : Hid (∀ gf, (L.length - i5x - 1) * 2 + 2 ≤ gf → LpC f w w8 b g cap L i (o + 1) w2.heap.size (w2.heap.size + 1) 19 tk.p [84, 72, 69, 78] R (.bool true) gf) := (fun gf hgf => ⟨i5x + 1, _, _, _, _, A7.out.1.step bl s8 (by omega), by omega, .inl ⟨rfl, f1 - 1, by omega, by rw [show f1 - 1 + 1 = f1 by omega]; have := A7.out.2.2; rwa [if_pos hw, List.tail_drop] at this, by omega, by omega⟩⟩); have il8 := s8.rd.il; clear hw A7)
            | (refine (found_no _ b g cap L i5x (o + 1) A7.out.1.st.rd [69, 76, 83, 73, 70] hw).mono ?_; rintro e w8 ⟨rfl, hb8⟩; have K8 : Hid (∀ gf, 1 ≤ gf → LpC f w w8 b g cap L i (o + 1) w2.heap.size (w2.heap.size + 1) 19 tk.p [84, 72, 69, 78] R (.bool false) gf) := (fun gf hgf => ⟨i5x, _, _, _, _, A7.out.1.below bl hb8, by omega, .inr ⟨rfl, by have := A7.out.2.2; rwa [if_neg hw] at this, hgf⟩⟩); clear hw A7))
          all_goals first
            | (have hK := K7.out
               go_roundg g'
               case measure => omega
               case rel => exact hK _ (by omega))
            | (have hK := K8.out
               go_roundg g'
               case measure => omega
               case rel => exact hK _ (by omega))
        · go_simp
          go_wp2_with (go_at_call 41; refine (BL.out _ (i5 + 1) (by omega) D.st.rd).mono ?_; intro e w5 hP; rcases postB_or hP with ⟨n5x, t5, c5, i5x, hy5, rfl, ht5, hi5x, s5, nd5⟩ | ⟨p5, er5, hy5, he, g5⟩ <;> first | (have hs5 := s5.size; clear hP) | (unfold gaveUp at he; subst he))
          rotate_left
          · rw [← A6.out.2.1, hy5, Rs.bind_bad, Rs.bind_bad]; exact ⟨rfl, rfl, gb_trans D.st.gb g5⟩
          have r5 := (D.step bl s5 (by omega)).row
          refine hK.out _ _ trivial (fun _ => ?_)
          clear hK K
          refine wpAnyH_ready (rs := [1, 4]) (by kernel_rfl) (by simp) ?_
          refine .cons rfl (fun K hK => ?_) (.cons rfl (fun K hK => ?_) .nil)
          · have cL := rowAt_cell r5
            go_simp
            refine hK.out _ _ trivial (fun _ => ?_)
            clear hK K
            refine wpAnyH_ready (rs := [4]) (by kernel_rfl) (by simp) ?_
            refine .cons rfl (fun K hK => ?_) .nil
            go_simp
            have r6 : rowAt (w5.alloc (.cells c5.cells 31)) _ = _ := (rowAt_old _ _ _ (Nat.ne_of_lt (Nat.lt_of_lt_of_le lD.1 hs5))).trans r5
            refine hK.out _ _ trivial (fun _ => ?_)
            clear hK K
            refine wpAnyH_ready (rs := [5]) (by kernel_rfl) (by simp) ?_
            refine .cons rfl (fun K hK => ?_) .nil
            obtain ⟨g6, N6, cp6, Y6, hrun6, rY6, fY6, F6⟩ := D.push (W := w5.alloc (.cells c5.cells 31)) bl gl s5 nd5 (by have := A6.out.2.2; omega) rfl
            clear s5 nd5
            go_simp
            refine hK.out _ _ trivial (fun _ => ?_)
            clear hK K
            refine wpAnyH_ready (rs := [6]) (by kernel_rfl) (by simp) ?_
            refine .cons rfl (fun K hK => ?_) .nil
            go_simp
            refine hK.out _ _ trivial (fun _ => ?_)
            clear hK K
            refine wpAnyH_ready (rs := [7]) (by kernel_rfl) (by simp) ?_
            refine .cons rfl (fun K hK => ?_) .nil
            have cY := rowAt_cell rY6
            go_simp
            refine hK.out _ _ trivial (fun _ => ?_)
            clear hK K
            refine wpAnyH_done (by kernel_rfl) ?_ _
            have A7 : Hid (FN w _ b g cap L i5x (o + 1) w.heap.size w2.heap.size (w2.heap.size + 1) 19 [] false tk.p _ _ _ (l ++ [N9] ++ [n5x]) ∧ j < i5x ∧ (if wd (L.drop i5x) = [69, 76, 83, 73, 70] then runS f1 (.br [84, 72, 69, 78] (l ++ [N9] ++ [n5x])) (o + 1) (L.drop i5x).tail else .ok (lst (l ++ [N9] ++ [n5x])) (L.drop i5x)) = R) := ⟨F6.out, by omega, by rw [← A6.out.2.1, hy5, Rs.bind_ok, ht5, List.append_assoc]; rfl⟩
            have hi7 := A7.out.2.1
            clear F6 hy5 ht5
            go_wp2_with (go_at_call 32; by_cases hw : wd (L.drop i5x) = [69, 76, 83, 73, 70] <;> first
              | (refine (found_yes _ b g cap L i5x (o + 1) A7.out.1.st.rd [69, 76, 83, 73, 70] (by decide) hw).mono ?_; rintro e w8 ⟨rfl, s8⟩; have K7 : Hid (∀ gf, (L.length - i5x - 1) * 2 + 2 ≤ gf → LpC f w w8 b g cap L i (o + 1) w2.heap.size (w2.heap.size + 1) 19 tk.p [84, 72, 69, 78] R (.bool true) gf) := (fun gf hgf => ⟨i5x + 1, _, _, _, _, A7.out.1.step bl s8 (by omega), by omega, .inl ⟨rfl, f1 - 1, by omega, by rw [show f1 - 1 + 1 = f1 by omega]; have := A7.out.2.2; rwa [if_pos hw, List.tail_drop] at this, by omega, by omega⟩⟩); have il8 := s8.rd.il; clear hw A7)
              | (refine (found_no _ b g cap L i5x (o + 1) A7.out.1.st.rd [69, 76, 83, 73, 70] hw).mono ?_; rintro e w8 ⟨rfl, hb8⟩; have K8 : Hid (∀ gf, 1 ≤ gf → LpC f w w8 b g cap L i (o + 1) w2.heap.size (w2.heap.size + 1) 19 tk.p [84, 72, 69, 78] R (.bool false) gf) := (fun gf hgf => ⟨i5x, _, _, _, _, A7.out.1.below bl hb8, by omega, .inr ⟨rfl, by have := A7.out.2.2; rwa [if_neg hw] at this, hgf⟩⟩); clear hw A7))
            all_goals first
              | (have hK := K7.out
                 go_roundg g'
                 case measure => omega
                 case rel => exact hK _ (by omega))
              | (have hK := K8.out
                 go_roundg g'
                 case measure => omega
                 case rel => exact hK _ (by omega))
          · go_simp
            have r6 : rowAt (w5.alloc (.cells c5.cells 31)) _ = _ := (rowAt_old _ _ _ (Nat.ne_of_lt (Nat.lt_of_lt_of_le lD.1 hs5))).trans r5
            refine hK.out _ _ trivial (fun _ => ?_)
            clear hK K
            refine wpAnyH_ready (rs := [1]) (by kernel_rfl) (by simp) ?_
            refine .cons rfl (fun K hK => ?_) .nil
            have cL := rowAt_cell r6
            go_simp
            refine hK.out _ _ trivial (fun _ => ?_)
            clear hK K
            refine wpAnyH_ready (rs := [5]) (by kernel_rfl) (by simp) ?_
            refine .cons rfl (fun K hK => ?_) .nil
            obtain ⟨g6, N6, cp6, Y6, hrun6, rY6, fY6, F6⟩ := D.push (W := w5.alloc (.cells c5.cells 31)) bl gl s5 nd5 (by have := A6.out.2.2; omega) rfl
            clear s5 nd5
            go_simp
            refine hK.out _ _ trivial (fun _ => ?_)
            clear hK K
            refine wpAnyH_ready (rs := [6]) (by kernel_rfl) (by simp) ?_
            refine .cons rfl (fun K hK => ?_) .nil
            go_simp
            refine hK.out _ _ trivial (fun _ => ?_)
            clear hK K
            refine wpAnyH_ready (rs := [7]) (by kernel_rfl) (by simp) ?_
            refine .cons rfl (fun K hK => ?_) .nil
            have cY := rowAt_cell rY6
            go_simp
            refine hK.out _ _ trivial (fun _ => ?_)
            clear hK K
            refine wpAnyH_done (by kernel_rfl) ?_ _
            have A7 : Hid (FN w _ b g cap L i5x (o + 1) w.heap.size w2.heap.size (w2.heap.size + 1) 19 [] false tk.p _ _ _ (l ++ [N9] ++ [n5x]) ∧ j < i5x ∧ (if wd (L.drop i5x) = [69, 76, 83, 73, 70] then runS f1 (.br [84, 72, 69, 78] (l ++ [N9] ++ [n5x])) (o + 1) (L.drop i5x).tail else .ok (lst (l ++ [N9] ++ [n5x])) (L.drop i5x)) = R) := ⟨F6.out, by omega, by rw [← A6.out.2.1, hy5, Rs.bind_ok, ht5, List.append_assoc]; rfl⟩
            have hi7 := A7.out.2.1
            clear F6 hy5 ht5
            go_wp2_with (go_at_call 32; by_cases hw : wd (L.drop i5x) = [69, 76, 83, 73, 70] <;> first
              | (refine (found_yes _ b g cap L i5x (o + 1) A7.out.1.st.rd [69, 76, 83, 73, 70] (by decide) hw).mono ?_; rintro e w8 ⟨rfl, s8⟩; have K7 : Hid (∀ gf, (L.length - i5x - 1) * 2 + 2 ≤ gf → LpC f w w8 b g cap L i (o + 1) w2.heap.size (w2.heap.size + 1) 19 tk.p [84, 72, 69, 78] R (.bool true) gf) := (fun gf hgf => ⟨i5x + 1, _, _, _, _, A7.out.1.step bl s8 (by omega), by omega, .inl ⟨rfl, f1 - 1, by omega, by rw [show f1 - 1 + 1 = f1 by omega]; have := A7.out.2.2; rwa [if_pos hw, List.tail_drop] at this, by omega, by omega⟩⟩); have il8 := s8.rd.il; clear hw A7)
              | (refine (found_no _ b g cap L i5x (o + 1) A7.out.1.st.rd [69, 76, 83, 73, 70] hw).mono ?_; rintro e w8 ⟨rfl, hb8⟩; have K8 : Hid (∀ gf, 1 ≤ gf → LpC f w w8 b g cap L i (o + 1) w2.heap.size (w2.heap.size + 1) 19 tk.p [84, 72, 69, 78] R (.bool false) gf) := (fun gf hgf => ⟨i5x, _, _, _, _, A7.out.1.below bl hb8, by omega, .inr ⟨rfl, by have := A7.out.2.2; rwa [if_neg hw] at this, hgf⟩⟩); clear hw A7))
            all_goals first
              | (have hK := K7.out
                 go_roundg g'
                 case measure => omega
                 case rel => exact hK _ (by omega))
              | (have hK := K8.out
                 go_roundg g'
                 case measure => omega
                 case rel => exact hK _ (by omega))
      · have HR : Hid (.ok (lst l) (L.drop j) = R) := hrun
        clear hrun
        have BL : Hid (∀ X j2, j < j2 → RdAt X b g cap L j2 (o + 1) → Calls Tryd.prog 41 #[.pointer (some ⟨b, 0, none⟩)] X (PostB X b g cap L j2 (o + 1) (blkR f (o + 1) (L.drop j2)))) := fun X j2 hj hX => HB.out f (Nat.le_refl _) X b g cap L j2 (o + 1) hX (by omega)
        by_cases hw : wd (L.drop j) = [69, 76, 83, 69]
        · go_upto_region 9 with (go_at_call 32; refine (found_yes _ b g cap L j (o + 1) AJ.out.st.rd [69, 76, 83, 69] (by decide) hw).mono ?_; rintro e w8 ⟨rfl, s8⟩; have A8 : Hid (FN w w8 b g cap L (j + 1) (o + 1) w.heap.size w2.heap.size (w2.heap.size + 1) 19 [] false tk.p a N m l ∧ ((blkR f (o + 1) (L.drop (j + 1))).bind fun y u => (mustR [69, 78, 68] u).bind fun _ v => Rs.ok (Nd.mk 19 [] 0 false (l ++ [y]) tk.p) v) = R.bind (fun l s => (if wd s = [69, 76, 83, 69] then (blkR f (o + 1) s.tail).bind fun y u => Rs.ok (lst (l.kids ++ [y])) u else .ok l s).bind fun l u => (mustR [69, 78, 68] u).bind fun _ v => Rs.ok (Nd.mk 19 [] 0 false l.kids tk.p) v)) := ⟨AJ.out.step bl s8 (by omega), by rw [← HR.out, Rs.bind_ok, if_pos hw, List.tail_drop, Rs.assoc]; rfl⟩; clear hw)
          go_cut [] (fun Y => ∃ l11 i11 a11 N11 m11, Hid (FN w Y b g cap L i11 (o + 1) w.heap.size w2.heap.size (w2.heap.size + 1) 19 [] false tk.p a11 N11 m11 l11 ∧ ((mustR [69, 78, 68] (L.drop i11)).bind fun _ v => Rs.ok (Nd.mk 19 [] 0 false l11 tk.p) v) = R.bind (fun l s => (if wd s = [69, 76, 83, 69] then (blkR f (o + 1) s.tail).bind fun y u => Rs.ok (lst (l.kids ++ [y])) u else .ok l s).bind fun l u => (mustR [69, 78, 68] u).bind fun _ v => Rs.ok (Nd.mk 19 [] 0 false l.kids tk.p) v)) ∧ i < i11)
          case first =>
            have D := (A8.out.1).drew bl
            have rD := D.row
            have lD := D.lt
            refine wp_region_held_drew (S := (fun _ => True)) (by kernel_rfl) trivial (fun hHeld => ?_)
            refine wpAnyH_take (i := 0) (v := ?_) rfl (by kernel_rfl) (by kernel_rfl) (by kernel_rfl) (fun _ _ _ h => h) (Or.inl ⟨by rfl, ?y0c⟩) hHeld ?r0c
            case y0c => (intro w2 hSw; (try dsimp only at hSw); go_simp; try rfl)
            simp only [Act.put, List.setIfInBounds_toArray, List.set_cons_zero, List.set_cons_succ]
            refine wpAnyH_take (i := 2) (v := ?_) rfl (by kernel_rfl) (by kernel_rfl) (by kernel_rfl) (fun _ _ _ h => h) (Or.inl ⟨by rfl, ?y2c⟩) hHeld ?r2c
            case y2c => (intro w2 hSw; (try dsimp only at hSw); go_simp; try rfl)
            simp only [Act.put, List.setIfInBounds_toArray, List.set_cons_zero, List.set_cons_succ]
            refine wpAnyH_ready (rs := [1, 3]) (by kernel_rfl) (by simp) ?_
            refine .cons rfl (fun K hK => ?_) (.cons rfl (fun K hK => ?_) .nil)
            · have cL := rowAt_cell rD
              go_simp
              refine hK.out _ _ trivial (fun _ => ?_)
              clear hK K
              refine wpAnyH_ready (rs := [3]) (by kernel_rfl) (by simp) ?_
              refine .cons rfl (fun K hK => ?_) .nil
              go_simp
              go_wp2_with (go_at_call 41; refine (BL.out _ (j + 1) (by omega) D.st.rd).mono ?_; intro e w5 hP; rcases postB_or hP with ⟨n5x, t5, c5, i5x, hy5, rfl, ht5, hi5x, s5, nd5⟩ | ⟨p5, er5, hy5, he, g5⟩ <;> first | (have hs5 := s5.size; clear hP) | (unfold gaveUp at he; subst he))
              rotate_left
              · rw [← A8.out.2, hy5, Rs.bind_bad]; exact ⟨rfl, rfl, gb_trans D.st.gb g5⟩
              have r5 := (D.step bl s5 (by omega)).row
              refine hK.out _ _ trivial (fun _ => ?_)
              clear hK K
              refine wpAnyH_ready (rs := [4]) (by kernel_rfl) (by simp) ?_
              refine .cons rfl (fun K hK => ?_) .nil
              go_simp
              have r6 : rowAt (w5.alloc (.cells c5.cells 31)) _ = _ := (rowAt_old _ _ _ (Nat.ne_of_lt (Nat.lt_of_lt_of_le lD.1 hs5))).trans r5
              refine hK.out _ _ trivial (fun _ => ?_)
              clear hK K
              refine wpAnyH_ready (rs := [5]) (by kernel_rfl) (by simp) ?_
              refine .cons rfl (fun K hK => ?_) .nil
              obtain ⟨g6, N6, cp6, Y6, hrun6, rY6, fY6, F6⟩ := D.push (W := w5.alloc (.cells c5.cells 31)) bl gl s5 nd5 (by omega) rfl
              clear s5 nd5
              go_simp
              refine hK.out _ _ trivial (fun _ => ?_)
              clear hK K
              refine wpAnyH_ready (rs := [6]) (by kernel_rfl) (by simp) ?_
              refine .cons rfl (fun K hK => ?_) .nil
              go_simp
              refine hK.out _ _ trivial (fun _ => ?_)
              clear hK K
              refine wpAnyH_ready (rs := [7]) (by kernel_rfl) (by simp) ?_
              refine .cons rfl (fun K hK => ?_) .nil
              have cY := rowAt_cell rY6
              go_simp
              refine hK.out _ _ trivial (fun _ => ?_)
              clear hK K
              refine wpAnyH_done (by kernel_rfl) ?_ _
              go_wp2_with fail
              go_meet
              exact ⟨_, i5x, _, _, _, ⟨F6.out, by rw [← A8.out.2, hy5, Rs.bind_ok, ht5]⟩, by omega⟩
            · go_simp
              go_wp2_with (go_at_call 41; refine (BL.out _ (j + 1) (by omega) D.st.rd).mono ?_; intro e w5 hP; rcases postB_or hP with ⟨n5x, t5, c5, i5x, hy5, rfl, ht5, hi5x, s5, nd5⟩ | ⟨p5, er5, hy5, he, g5⟩ <;> first | (have hs5 := s5.size; clear hP) | (unfold gaveUp at he; subst he))
              rotate_left
              · rw [← A8.out.2, hy5, Rs.bind_bad]; exact ⟨rfl, rfl, gb_trans D.st.gb g5⟩
              have r5 := (D.step bl s5 (by omega)).row
              refine hK.out _ _ trivial (fun _ => ?_)
              clear hK K
              refine wpAnyH_ready (rs := [1, 4]) (by kernel_rfl) (by simp) ?_
              refine .cons rfl (fun K hK => ?_) (.cons rfl (fun K hK => ?_) .nil)
              · have cL := rowAt_cell r5
                go_simp
                refine hK.out _ _ trivial (fun _ => ?_)
                clear hK K
                refine wpAnyH_ready (rs := [4]) (by kernel_rfl) (by simp) ?_
                refine .cons rfl (fun K hK => ?_) .nil
                go_simp
                have r6 : rowAt (w5.alloc (.cells c5.cells 31)) _ = _ := (rowAt_old _ _ _ (Nat.ne_of_lt (Nat.lt_of_lt_of_le lD.1 hs5))).trans r5
                refine hK.out _ _ trivial (fun _ => ?_)
                clear hK K
                refine wpAnyH_ready (rs := [5]) (by kernel_rfl) (by simp) ?_
                refine .cons rfl (fun K hK => ?_) .nil
                obtain ⟨g6, N6, cp6, Y6, hrun6, rY6, fY6, F6⟩ := D.push (W := w5.alloc (.cells c5.cells 31)) bl gl s5 nd5 (by omega) rfl
                clear s5 nd5
                go_simp
                refine hK.out _ _ trivial (fun _ => ?_)
                clear hK K
                refine wpAnyH_ready (rs := [6]) (by kernel_rfl) (by simp) ?_
                refine .cons rfl (fun K hK => ?_) .nil
                go_simp
                refine hK.out _ _ trivial (fun _ => ?_)
                clear hK K
                refine wpAnyH_ready (rs := [7]) (by kernel_rfl) (by simp) ?_
                refine .cons rfl (fun K hK => ?_) .nil
                have cY := rowAt_cell rY6
                go_simp
                refine hK.out _ _ trivial (fun _ => ?_)
                clear hK K
                refine wpAnyH_done (by kernel_rfl) ?_ _
                go_wp2_with fail
                go_meet
                exact ⟨_, i5x, _, _, _, ⟨F6.out, by rw [← A8.out.2, hy5, Rs.bind_ok, ht5]⟩, by omega⟩
              · go_simp
                have r6 : rowAt (w5.alloc (.cells c5.cells 31)) _ = _ := (rowAt_old _ _ _ (Nat.ne_of_lt (Nat.lt_of_lt_of_le lD.1 hs5))).trans r5
                refine hK.out _ _ trivial (fun _ => ?_)
                clear hK K
                refine wpAnyH_ready (rs := [1]) (by kernel_rfl) (by simp) ?_
                refine .cons rfl (fun K hK => ?_) .nil
                have cL := rowAt_cell r6
                go_simp
                refine hK.out _ _ trivial (fun _ => ?_)
                clear hK K
                refine wpAnyH_ready (rs := [5]) (by kernel_rfl) (by simp) ?_
                refine .cons rfl (fun K hK => ?_) .nil
                obtain ⟨g6, N6, cp6, Y6, hrun6, rY6, fY6, F6⟩ := D.push (W := w5.alloc (.cells c5.cells 31)) bl gl s5 nd5 (by omega) rfl
                clear s5 nd5
                go_simp
                refine hK.out _ _ trivial (fun _ => ?_)
                clear hK K
                refine wpAnyH_ready (rs := [6]) (by kernel_rfl) (by simp) ?_
                refine .cons rfl (fun K hK => ?_) .nil
                go_simp
                refine hK.out _ _ trivial (fun _ => ?_)
                clear hK K
                refine wpAnyH_ready (rs := [7]) (by kernel_rfl) (by simp) ?_
                refine .cons rfl (fun K hK => ?_) .nil
                have cY := rowAt_cell rY6
                go_simp
                refine hK.out _ _ trivial (fun _ => ?_)
                clear hK K
                refine wpAnyH_done (by kernel_rfl) ?_ _
                go_wp2_with fail
                go_meet
                exact ⟨_, i5x, _, _, _, ⟨F6.out, by rw [← A8.out.2, hy5, Rs.bind_ok, ht5]⟩, by omega⟩
          case rest =>
          obtain ⟨l11, i11, a11, N11, m11, A11, hi11⟩ := hcut
          clear AJ A8
          go_wp2_with (first
            | (go_at_call 30; refine (must_any _ b g cap L i11 (o + 1) A11.out.1.st.rd [69, 78, 68] (by decide)).mono ?_; intro e w12 hP; rcases postT_or hP with ⟨x12, u12x, hm12, rfl, ht12, s12⟩ | ⟨p12, er12, hm12, he, g12⟩ <;> first
          | (have hs12 := s12.size; have A12 : Hid (FN w w12 b g cap L (i11 + 1) (o + 1) w.heap.size w2.heap.size (w2.heap.size + 1) 19 [] false tk.p a11 N11 m11 l11 ∧ Rs.ok (Nd.mk 19 [] 0 false l11 tk.p) (L.drop (i11 + 1)) = (R.bind (fun l s => (if wd s = [69, 76, 83, 69] then (blkR f (o + 1) s.tail).bind fun y u => Rs.ok (lst (l.kids ++ [y])) u else .ok l s).bind fun l u => (mustR [69, 78, 68] u).bind fun _ v => Rs.ok (Nd.mk 19 [] 0 false l.kids tk.p) v))) := ⟨A11.out.1.step bl s12 (by omega), by rw [← A11.out.2, hm12, Rs.bind_ok, ht12]⟩; clear hP hm12 ht12 s12)
          | (unfold gaveUp at he; subst he))
            | (go_at_call 77; refine (end_any _ b g cap L (i11 + 1) o A12.out.1.st.rd).mono ?_; rintro e w13 ⟨rfl, s13⟩; have A13 := A12.out.1.step bl s13 (Nat.le_refl _); have r13 := A13.row; have m13 := A13.res; have H13 : Hid (FN w w13 b g cap L (i11 + 1) o w.heap.size w2.heap.size (w2.heap.size + 1) 19 [] false tk.p a11 N11 m11 l11) := A13; clear A13))
          all_goals first
            | (rw [← A11.out.2, hm12, Rs.bind_bad]; exact ⟨rfl, rfl, gb_trans A11.out.1.st.gb g12⟩)
            | (rw [← A12.out.2]; exact ret_cell1 rfl rfl (loadNd_row (rowNd_put _ _ _ m13)) rfl (H13.out.fin bl gl (by omega)))
        · obtain ⟨i11, hi11⟩ : ∃ i11, i11 = j := ⟨_, rfl⟩
          subst hi11
          go_wp2_with (first
            | (go_at_call 32; refine (found_no _ b g cap L i11 (o + 1) AJ.out.st.rd [69, 76, 83, 69] hw).mono ?_; rintro e w8 ⟨rfl, hb8⟩; have A11 : Hid (FN w w8 b g cap L i11 (o + 1) w.heap.size w2.heap.size (w2.heap.size + 1) 19 [] false tk.p a N m l ∧ ((mustR [69, 78, 68] (L.drop i11)).bind fun _ v => Rs.ok (Nd.mk 19 [] 0 false l tk.p) v) = R.bind (fun l s => (if wd s = [69, 76, 83, 69] then (blkR f (o + 1) s.tail).bind fun y u => Rs.ok (lst (l.kids ++ [y])) u else .ok l s).bind fun l u => (mustR [69, 78, 68] u).bind fun _ v => Rs.ok (Nd.mk 19 [] 0 false l.kids tk.p) v)) := ⟨AJ.out.below bl hb8, by rw [← HR.out, Rs.bind_ok, if_neg hw, Rs.bind_ok]; rfl⟩; clear hw)
            | (go_at_call 30; refine (must_any _ b g cap L i11 (o + 1) A11.out.1.st.rd [69, 78, 68] (by decide)).mono ?_; intro e w12 hP; rcases postT_or hP with ⟨x12, u12x, hm12, rfl, ht12, s12⟩ | ⟨p12, er12, hm12, he, g12⟩ <;> first
          | (have hs12 := s12.size; have A12 : Hid (FN w w12 b g cap L (i11 + 1) (o + 1) w.heap.size w2.heap.size (w2.heap.size + 1) 19 [] false tk.p a N m l ∧ Rs.ok (Nd.mk 19 [] 0 false l tk.p) (L.drop (i11 + 1)) = (R.bind (fun l s => (if wd s = [69, 76, 83, 69] then (blkR f (o + 1) s.tail).bind fun y u => Rs.ok (lst (l.kids ++ [y])) u else .ok l s).bind fun l u => (mustR [69, 78, 68] u).bind fun _ v => Rs.ok (Nd.mk 19 [] 0 false l.kids tk.p) v))) := ⟨A11.out.1.step bl s12 (by omega), by rw [← A11.out.2, hm12, Rs.bind_ok, ht12]⟩; clear hP hm12 ht12 s12)
          | (unfold gaveUp at he; subst he))
            | (go_at_call 77; refine (end_any _ b g cap L (i11 + 1) o A12.out.1.st.rd).mono ?_; rintro e w13 ⟨rfl, s13⟩; have A13 := A12.out.1.step bl s13 (Nat.le_refl _); have r13 := A13.row; have m13 := A13.res; have H13 : Hid (FN w w13 b g cap L (i11 + 1) o w.heap.size w2.heap.size (w2.heap.size + 1) 19 [] false tk.p a N m l) := A13; clear A13))
          all_goals first
            | (rw [← A11.out.2, hm12, Rs.bind_bad]; exact ⟨rfl, rfl, gb_trans A11.out.1.st.gb g12⟩)
            | (rw [← A12.out.2]; exact ret_cell1 rfl rfl (loadNd_row (rowNd_put _ _ _ m13)) rfl (H13.out.fin bl gl (by omega)))
end Go.Proofs.YtllhcjmabhempaaDoor
