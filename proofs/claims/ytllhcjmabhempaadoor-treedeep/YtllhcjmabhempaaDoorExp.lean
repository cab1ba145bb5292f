/-
  Layer 9: expressions.
-/
import Derived.Test.YtllhcjmabhempaaDoorNd2
import Derived.Test.YtllhcjmabhempaaDoorBad
import Derived.Test.YtllhcjmabhempaaDoorLit
namespace Go.Proofs.YtllhcjmabhempaaDoor
set_option linter.unusedVariables false
set_option linter.unusedSimpArgs false
open Go.ChangeShapes Go.WideShapes Go.ChangeAt Go.RowKit


attribute [local go_sem] fieldTk0 fieldTk3 hmf

def lv : NT → Nat
  | .expr => 20
  | .simple => 18
  | .first => 16
  | .term => 14
  | .factor => 12
  | .desig => 10
  | .elem => 22
  | _ => 15
/-- A function of the reader's reads what is asked for, with so much fuel. -/
def Pc (F : Nat) (nt : NT) (f : Nat) : Prop := ∀ (w : World) (b g cap : Nat) (L : List Tok) (i o : Nat), RdAt w b g cap L i o → (L.length - i) * 40 + lv nt ≤ f → Calls Tryd.prog F #[.pointer (some ⟨b, 0, none⟩)] w (PostN w b g cap L i o (run f nt o (L.drop i)))
theorem fin_post {w w' : World} {b g cap i i' o : Nat} {L t : List Tok} {c : Nc} {n : Nd} (S : St w w' b g cap L i' o) (bl : b < w.heap.size) (gl : g < w.heap.size) (hi : i < i') (ht : t = L.drop i') (nd : NdAt w' (fun x => w.heap.size + 1 ≤ x) c n) :
    PostN w b g cap L i o (.ok n t) (.returned (.agg c.cells)) (putRow w' w.heap.size c.cells) :=
  ⟨c, i', rfl, ht, hi, S.old bl gl _ (Nat.le_refl _) _, nd.keep (fun x hx _ => by omega) (by rw [size_put]; exact Nat.le_refl _) (fun x hx _ => put_far _ _ _ _ (by omega))⟩
theorem wd_rank {t : List Tok} {k : Int} (h : rankP (wd t) = k) (hk : k ≠ 0) : (hd t).k ≠ 0 := wd_kind fun e => by rw [e] at h; exact hk (by rw [← h]; rfl)
set_option maxHeartbeats 2000000 in
set_option maxRecDepth 20000 in
theorem expr_step (f : Nat) (hS : Pc 43 .simple f) : Pc 16 .expr (f + 1) := by
  intro w b g cap L i o h hf
  have bl := h.bl
  have gl := h.gl
  have hil := h.il
  have H : Hid (RdAt w b g cap L i o) := h
  have hf0 : (L.length - i) * 40 + 20 ≤ f + 1 := hf
  have hf2 : (L.length - i) * 40 + 19 ≤ f := by omega
  have S1 : Hid (∀ X, RdAt X b g cap L i o → Calls Tryd.prog 43 #[.pointer (some ⟨b, 0, none⟩)] X (PostN X b g cap L i o (run f .simple o (L.drop i)))) := fun X hX => hS X b g cap L i o hX (by show (L.length - i) * 40 + 18 ≤ f; omega)
  have S2 : Hid (∀ i1, i < i1 → ∀ X, RdAt X b g cap L (i1 + 1) o → Calls Tryd.prog 43 #[.pointer (some ⟨b, 0, none⟩)] X (PostN X b g cap L (i1 + 1) o (run f .simple o (L.drop (i1 + 1))))) := fun i1 h1 X hX => hS X b g cap L (i1 + 1) o hX (by show (L.length - (i1 + 1)) * 40 + 18 ≤ f; omega)
  clear hS h hf hf0
  rw [run]
  cases hr : run f .simple o (L.drop i) with
  | bad p e =>
    rw [hr] at S1
    rw [Rs.bind_bad]
    clear hr S2
    go_enter Tryd.func16, Tryd.ntmps16
    go_wp2_with (go_at_call 43; refine (S1.out _ (H.out.alloc _)).mono ?_; rintro e w1 ⟨he, g1⟩; unfold gaveUp at he; subst he)
    exact ⟨rfl, rfl, gb_trans ((St.refl H.out).alloc _).gb g1⟩
  | ok l r =>
    rw [hr] at S1
    rw [Rs.bind_ok]
    clear hr
    by_cases hk : rankP (wd r) = 1
    · rw [if_pos hk]
      have hkb : (rankP (wd r) == 1) = true := by simpa using hk
      cases hr2 : run f .simple o r.tail with
      | bad p e =>
        rw [Rs.bind_bad]
        have S3 : Hid (∀ i1, i < i1 → r = L.drop i1 → ∀ X, RdAt X b g cap L (i1 + 1) o → Calls Tryd.prog 43 #[.pointer (some ⟨b, 0, none⟩)] X (PostN X b g cap L (i1 + 1) o (.bad p e))) := fun i1 h1 e1 X hX => by
          have := S2.out i1 h1 X hX
          rwa [← List.tail_drop, ← e1, hr2] at this
        have HK : Hid (∀ i1, r = L.drop i1 → (hd (L.drop i1)).k ≠ 0) := fun i1 e1 => by rw [← e1]; exact wd_rank hk (by omega)
        clear hr2 S2 hk
        go_enter Tryd.func16, Tryd.ntmps16
        go_wp2_with (first
          | (go_at_call 45; refine (binary_bad_simple _ b g cap L i1 o A2.out.1.rd (HK.out i1 A1.out.2.2.2) c1 p e (S3.out i1 A1.out.2.2.1 A1.out.2.2.2)).mono ?_; rintro e w5 ⟨he, g5⟩; unfold gaveUp at he; subst he)
          | (go_at_call 43; refine (S1.out _ (H.out.alloc _)).mono ?_; rintro e w1 ⟨c1, i1, rfl, ht1, hi1, s1, nd1⟩; have hs1 := s1.size; simp at hs1; have A1 : Hid (St w w1 b g cap L i1 o ∧ NdAt w1 (fun x => w.heap.size + 1 ≤ x) c1 l ∧ i < i1 ∧ r = L.drop i1) := ⟨((St.refl H.out).alloc _).next s1, by simpa using nd1, hi1, ht1⟩; have m2 : roomAt w1 w.heap.size 6 = true := (s1.room (by simp) (by omega) 6).trans (roomNd_new _ _ _ _ (by simp)); rw [ht1] at hkb; clear nd1 s1 ht1 hi1)
          | (go_at_call 39; refine (word_any _ b g cap L i1 o (A1.out.1.alloc _).rd).mono ?_; rintro e w2 ⟨rfl, hb2⟩; have hs2 := hb2.size; simp at hs2; have r3 : rowAt w2 w1.heap.size = some c1.cells := (rowAt_below hb2 _ (by simp)).trans (rowAt_at _ _ _ _ _ rfl); have m3 : roomAt w2 w.heap.size 6 = true := (roomAt_below hb2 _ _ (by simp; omega)).trans ((roomAt_old _ _ _ _ (by omega)).trans m2); have A2 : Hid (St w w2 b g cap L i1 o ∧ NdAt w2 (fun x => w.heap.size + 1 ≤ x) c1 l) := ⟨(A1.out.1.alloc _).below hb2, NdAt.step (g := g) (cap := cap) (i := i) (o := o) (L := L) (b := b) A1.out.2.1 (by omega) (gb_trans (gb_of_below (by go_grown) b) (gb_of_below hb2 b))⟩)
          | (go_at_call 44; refine (rank_any _ _).mono ?_; rintro e w' ⟨rfl, hw⟩; obtain rfl := hw.symm; clear hw))
        exact ⟨rfl, rfl, gb_trans A2.out.1.gb g5⟩
      | ok y s =>
        rw [Rs.bind_ok]
        have S3 : Hid (∀ i1, i < i1 → r = L.drop i1 → ∀ X, RdAt X b g cap L (i1 + 1) o → Calls Tryd.prog 43 #[.pointer (some ⟨b, 0, none⟩)] X (PostN X b g cap L (i1 + 1) o (.ok y s))) := fun i1 h1 e1 X hX => by
          have := S2.out i1 h1 X hX
          rwa [← List.tail_drop, ← e1, hr2] at this
        have HK : Hid (∀ i1, r = L.drop i1 → (hd (L.drop i1)).k ≠ 0) := fun i1 e1 => by rw [← e1]; exact wd_rank hk (by omega)
        clear hr2 S2 hk
        go_enter Tryd.func16, Tryd.ntmps16
        go_wp2_with (first
          | (go_at_call 45; refine (binary_ok_simple _ b g cap L i1 o A2.out.1.rd (HK.out i1 A1.out.2.2.2) c1 (fun x => w.heap.size + 1 ≤ x) (fun x hx => by omega) (fun x hx => by omega) l y s A2.out.2 (S3.out i1 A1.out.2.2.1 A1.out.2.2.2)).mono ?_; rintro e w5 ⟨c5, i5, rfl, ht5, hi5, s5, nd5⟩; have m5 : roomAt w5 w.heap.size 6 = true := (s5.room (by omega) (by omega) 6).trans m3)
          | (go_at_call 43; refine (S1.out _ (H.out.alloc _)).mono ?_; rintro e w1 ⟨c1, i1, rfl, ht1, hi1, s1, nd1⟩; have hs1 := s1.size; simp at hs1; have A1 : Hid (St w w1 b g cap L i1 o ∧ NdAt w1 (fun x => w.heap.size + 1 ≤ x) c1 l ∧ i < i1 ∧ r = L.drop i1) := ⟨((St.refl H.out).alloc _).next s1, by simpa using nd1, hi1, ht1⟩; have m2 : roomAt w1 w.heap.size 6 = true := (s1.room (by simp) (by omega) 6).trans (roomNd_new _ _ _ _ (by simp)); rw [ht1] at hkb; clear nd1 s1 ht1 hi1)
          | (go_at_call 39; refine (word_any _ b g cap L i1 o (A1.out.1.alloc _).rd).mono ?_; rintro e w2 ⟨rfl, hb2⟩; have hs2 := hb2.size; simp at hs2; have r3 : rowAt w2 w1.heap.size = some c1.cells := (rowAt_below hb2 _ (by simp)).trans (rowAt_at _ _ _ _ _ rfl); have m3 : roomAt w2 w.heap.size 6 = true := (roomAt_below hb2 _ _ (by simp; omega)).trans ((roomAt_old _ _ _ _ (by omega)).trans m2); have A2 : Hid (St w w2 b g cap L i1 o ∧ NdAt w2 (fun x => w.heap.size + 1 ≤ x) c1 l) := ⟨(A1.out.1.alloc _).below hb2, NdAt.step (g := g) (cap := cap) (i := i) (o := o) (L := L) (b := b) A1.out.2.1 (by omega) (gb_trans (gb_of_below (by go_grown) b) (gb_of_below hb2 b))⟩)
          | (go_at_call 44; refine (rank_any _ _).mono ?_; rintro e w' ⟨rfl, hw⟩; obtain rfl := hw.symm; clear hw))
        have e9 := A1.out.2.2.2
        have e8 := A1.out.2.2.1
        rw [← e9] at nd5
        exact ret_cell1 rfl rfl (loadNd_row (rowNd_put _ _ _ m5)) rfl (fin_post (A2.out.1.next s5) bl gl (by omega) ht5 nd5)
    · rw [if_neg hk]
      clear S2
      have hkb : (rankP (wd r) == 1) = false := by simpa using hk
      clear hk
      go_enter Tryd.func16, Tryd.ntmps16
      go_wp2_with (first
        | (go_at_call 43; refine (S1.out _ (H.out.alloc _)).mono ?_; rintro e w1 ⟨c1, i1, rfl, ht1, hi1, s1, nd1⟩; have hs1 := s1.size; simp at hs1; have A1 : Hid (St w w1 b g cap L i1 o ∧ NdAt w1 (fun x => w.heap.size + 1 ≤ x) c1 l ∧ i < i1 ∧ r = L.drop i1) := ⟨((St.refl H.out).alloc _).next s1, by simpa using nd1, hi1, ht1⟩; have m2 : roomAt w1 w.heap.size 6 = true := (s1.room (by simp) (by omega) 6).trans (roomNd_new _ _ _ _ (by simp)); rw [ht1] at hkb; clear nd1 s1 ht1 hi1)
        | (go_at_call 39; refine (word_any _ b g cap L i1 o (A1.out.1.alloc _).rd).mono ?_; rintro e w2 ⟨rfl, hb2⟩; have hs2 := hb2.size; simp at hs2; have r3 : rowAt w2 w1.heap.size = some c1.cells := (rowAt_below hb2 _ (by simp)).trans (rowAt_at _ _ _ _ _ rfl); have m3 : roomAt w2 w.heap.size 6 = true := (roomAt_below hb2 _ _ (by simp; omega)).trans ((roomAt_old _ _ _ _ (by omega)).trans m2); have A2 : Hid (St w w2 b g cap L i1 o ∧ NdAt w2 (fun x => w.heap.size + 1 ≤ x) c1 l) := ⟨(A1.out.1.alloc _).below hb2, NdAt.step (g := g) (cap := cap) (i := i) (o := o) (L := L) (b := b) A1.out.2.1 (by omega) (gb_trans (gb_of_below (by go_grown) b) (gb_of_below hb2 b))⟩)
        | (go_at_call 44; refine (rank_any _ _).mono ?_; rintro e w' ⟨rfl, hw⟩; obtain rfl := hw.symm; clear hw))
      exact ret_cell1 rfl rfl (loadNd_row (rowNd_put _ _ _ m3)) rfl (fin_post A2.out.1 bl gl A1.out.2.2.1 A1.out.2.2.2 A2.out.2)
end Go.Proofs.YtllhcjmabhempaaDoor
