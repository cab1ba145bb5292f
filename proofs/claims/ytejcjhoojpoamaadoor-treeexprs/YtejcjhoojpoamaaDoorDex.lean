/-
  Layer 9, the document's: expressions.
-/
import Derived.Test.YtejcjhoojpoamaaDoorDrk
namespace Go.Proofs.YtejcjhoojpoamaaDoor
set_option linter.unusedVariables false
set_option linter.unusedSimpArgs false
open Go.ChangeShapes Go.WideShapes Go.ChangeAt Go.RowKit
attribute [local go_sem ↓] loadTk_seal storeTk_seal loadKeys_seal loadSigns_seal
attribute [local go_sem] loadTk_run storeTk_run rowAt_at rowAt_old rowAt_drew rowAt_drewN roomTk_new roomAt_old roomAt_drew roomAt_drewN putTk_new Tk.fold putRow_past rowTk_put size_put putRow_drew putRow_drewN alloc_drewN setCell_drewN Tk.at0 Tk.at1 Tk.at2 Tk.at3 Tk.size Tk.set0 Tk.set1 Tk.set2 Tk.set3 Tk.ne rowAt_set rowAt_far roomAt_far
attribute [local go_sem ↓] loadNd_seal storeNd_seal
attribute [local go_sem] loadNd_run storeNd_run roomNd_new putNd_new Nc.fold rowNd_put Nc.at0 Nc.at1 Nc.at2 Nc.at3 Nc.at4 Nc.at5 Nc.size Nc.set0 Nc.set1 Nc.set2 Nc.set3 Nc.set4 Nc.set5 Nc.ne
attribute [local go_sem] fieldTk0 fieldTk3
attribute [local go_sem ↓] bslNd_seal
attribute [local go_sem] bslNd1_run bslNd2_run

/-- What a reading function of the document's leaves: a tree in new memory, and the reader behind it; or any node, and the first error told. -/
def PostD (w : World) (b g cap : Nat) (L : List Tok) (i o : Nat) (r : Rs Nd) (e : Ending) (w' : World) : Prop := match r with
  | .ok n t => ∃ c i', e = .returned (.agg (Nc.cells c)) ∧ t = L.drop i' ∧ i < i' ∧ Ds w w' b g cap L i' (o : Int) 0 0 ∧ NdAt w' (fun x => w.heap.size ≤ x) c n
  | .bad p er => ∃ c i' o', e = .returned (.agg (Nc.cells c)) ∧ er ≠ 0 ∧ Ds w w' b g cap L i' o' er (p : Int)
def Pd (F : Nat) (nt : NT) (f : Nat) : Prop := ∀ (w : World) (b g cap : Nat) (L : List Tok) (i o : Nat), DAt w b g cap L i (o : Int) 0 0 → o ≤ 24 → (∀ x ∈ L, okT x) → (L.length - i) * 40 + lv nt ≤ f → Calls Tryd.prog F #[.pointer (some ⟨b, 0, none⟩)] w (PostD w b g cap L i o (run f nt o (L.drop i)))
theorem DAt.okt {w : World} {b g cap i : Nat} {o e p : Int} {L : List Tok} (h : DAt w b g cap L i o e p) (hok : ∀ x ∈ L, okT x) : okT (Go.Proofs.YtejcjhoojpoamaaDoor.hd (L.drop i)) := by rw [h.hd]; exact hok _ (List.getElem_mem _)
theorem fin_d {w w' : World} {b g cap i i' o : Nat} {L t : List Tok} {c : Nc} {n : Nd} (S : Ds w w' b g cap L i' (o : Int) 0 0) (bl : b < w.heap.size) (gl : g < w.heap.size) (hi : i < i') (ht : t = L.drop i') (nd : NdAt w' (fun x => w.heap.size + 1 ≤ x) c n) :
    PostD w b g cap L i o (.ok n t) (.returned (.agg c.cells)) (putRow w' w.heap.size c.cells) :=
  ⟨c, i', rfl, ht, hi, S.old bl gl _ (Nat.le_refl _) _, nd.keep (fun x hx _ => by omega) (by rw [size_put]; exact Nat.le_refl _) (fun x hx _ => put_far _ _ _ _ (by omega))⟩
theorem bad_d {w w' : World} {b g cap i i' o : Nat} {o' er : Int} {p : Nat} {L : List Tok} {c : Nc} (S : Ds w w' b g cap L i' o' er (p : Int)) (bl : b < w.heap.size) (gl : g < w.heap.size) (he : er ≠ 0) :
    PostD w b g cap L i o (.bad p er) (.returned (.agg c.cells)) (putRow w' w.heap.size c.cells) :=
  ⟨c, i', o', rfl, he, S.old bl gl _ (Nat.le_refl _) _⟩
theorem bin_made' {Y : World} {P : Nat → Prop} {blk : Nat} {c d : Nc} {n1 n2 : Nd} {tk : Tok} (hP : P blk) (hb : Y.heap[blk]? = some (.cells (c.cells ++ d.cells) 25 (0, 0))) (h1 : NdAt Y P c n1) (h2 : NdAt Y P d n2) : NdAt Y P ⟨37, bs tk.t, 0, false, some ⟨blk, 0, none⟩, 2, 2, (tk.p : Int)⟩ (binN tk n1 n2) := bin_made hP hb h1 h2
theorem e0 : ((0 : Int) == 0) = true := rfl
set_option maxHeartbeats 4000000 in
set_option maxRecDepth 20000 in
theorem dexpr_step (f : Nat) (hS : Pd 34 .simple f) : Pd 19 .expr (f + 1) := by
  intro w b g cap L i o h ho hok hf
  have bl := h.bl
  have gl := h.gl
  have hil := h.il
  have H : Hid (DAt w b g cap L i (o : Int) 0 0) := h
  have hf0 : (L.length - i) * 40 + 20 ≤ f + 1 := hf
  have S1 : Hid (∀ X, DAt X b g cap L i (o : Int) 0 0 → Calls Tryd.prog 34 #[.pointer (some ⟨b, 0, none⟩)] X (PostD X b g cap L i o (run f .simple o (L.drop i)))) := fun X hX => hS X b g cap L i o hX ho hok (by show (L.length - i) * 40 + 18 ≤ f; omega)
  have S2 : Hid (∀ i1, i < i1 → ∀ X, DAt X b g cap L (i1 + 1) (o : Int) 0 0 → Calls Tryd.prog 34 #[.pointer (some ⟨b, 0, none⟩)] X (PostD X b g cap L (i1 + 1) o (run f .simple o (L.drop (i1 + 1))))) := fun i1 h1 X hX => hS X b g cap L (i1 + 1) o hX ho hok (by show (L.length - (i1 + 1)) * 40 + 18 ≤ f; omega)
  have HO : Hid (∀ X i1, DAt X b g cap L i1 (o : Int) 0 0 → relB (hd (L.drop i1)) = decide (rankP (wd (L.drop i1)) = 1)) := fun X i1 hX => (rank_wd (hX.okt hok)).1
  clear hS h hf
  rw [run]
  cases hr : run f .simple o (L.drop i) with
  | bad p er =>
    rw [hr] at S1
    rw [Rs.bind_bad]
    clear hr S2
    have HE : er ≠ 0 ∨ er = 0 := by omega
    rcases HE with HE | HE
    · have ee : (er == 0) = false := by simpa using HE
      have HE : Hid (er ≠ 0) := HE
      go_enter Tryd.func19, Tryd.ntmps19
      go_wp2_with ((go_at_call 34; refine (S1.out _ (H.out.alloc _)).mono ?_; rintro e w1 ⟨c1, i1, o1, rfl, he1, s1⟩; have hs1 := s1.size; simp at hs1; have A1 : Hid (Ds w w1 b g cap L i1 o1 er (p : Int)) := ((Ds.refl H.out).alloc _).next s1; have c31 := s1.rd.c3; have l1 := s1.rd.bl; have q1 : w1.heap.size ≠ b := (by omega); have m2 : roomAt w1 w.heap.size 6 = true := (s1.room (by simp) (by omega) 6).trans (roomNd_new _ _ _ _ (by simp)); have hl1 : w.heap.size < w1.heap.size := (by omega); have hw1 : w.heap.size ≠ w1.heap.size := (by omega)))
      exact ret_cell1 rfl rfl (loadNd_row ((rowAt_old _ _ _ (by rw [size_put]; omega)).trans (rowNd_put _ _ _ m2))) rfl ⟨c1, i1, o1, rfl, HE.out, (A1.out.old bl gl _ (Nat.le_refl _) _).alloc _⟩
    · go_enter Tryd.func19, Tryd.ntmps19
      go_wp2_with (go_at_call 34; refine (S1.out _ (H.out.alloc _)).mono ?_; rintro e w1 ⟨c1, i1, o1, rfl, he1, s1⟩; exact absurd HE he1)
  | ok l r =>
    rw [hr] at S1
    rw [Rs.bind_ok]
    clear hr
    by_cases hk : rankP (wd r) = 1
    · rw [if_pos hk]
      have HKB : Hid (∀ X i1, r = L.drop i1 → DAt X b g cap L i1 (o : Int) 0 0 → relB (hd (L.drop i1)) = true) := fun X i1 e hX => by rw [HO.out X i1 hX, ← e]; simpa using hk
      have HK : Hid (∀ i1, r = L.drop i1 → (hd (L.drop i1)).k ≠ 0) := fun i1 e1 => by rw [← e1]; exact wd_rank hk (by omega)
      cases hr2 : run f .simple o r.tail with
      | bad p er =>
        rw [Rs.bind_bad]
        have S3 : Hid (∀ i1, i < i1 → r = L.drop i1 → ∀ X, DAt X b g cap L (i1 + 1) (o : Int) 0 0 → Calls Tryd.prog 34 #[.pointer (some ⟨b, 0, none⟩)] X (PostD X b g cap L (i1 + 1) o (.bad p er))) := fun i1 h1 e1 X hX => by
          have := S2.out i1 h1 X hX
          rwa [← List.tail_drop, ← e1, hr2] at this
        clear hr2 S2 hk
        go_enter Tryd.func19, Tryd.ntmps19
        go_wp2_with (first
          | (go_at_call 34; have hx := A3; clear hx; refine (S3.out i1 A1.out.2.2.1 A1.out.2.2.2 _ (A3.out.1.alloc _).rd).mono ?_; rintro e w5 ⟨c5, i5, o5, rfl, he5, s5⟩; have hs5 := s5.size; simp at hs5; have t5 : rowAt w5 w3.heap.size = some (hd (L.drop i1)).tk.cells := (s5.row (by simp) (by omega)).trans (rowAt_at _ _ _ _ _ rfl); have r5 : rowAt w5 w1.heap.size = some c1.cells := (s5.row (by simp; omega) (by omega)).trans ((rowAt_old _ _ _ (by omega)).trans r4); have k5 : roomAt w5 w1.heap.size 6 = true := (s5.room (by simp; omega) (by omega) 6).trans ((roomAt_old _ _ _ _ (by omega)).trans k4); have m5 : roomAt w5 w.heap.size 6 = true := (s5.room (by simp; omega) (by omega) 6).trans ((roomAt_old _ _ _ _ (by omega)).trans m4); have A5 : Hid (Ds w w5 b g cap L i5 o5 er (p : Int)) := (A3.out.1.alloc _).next s5; have hw5 : w1.heap.size ≠ w5.heap.size := (by omega); have hw6 : w3.heap.size ≠ w5.heap.size := (by omega))
          | (go_at_call 34; refine (S1.out _ (H.out.alloc _)).mono ?_; rintro e w1 ⟨c1, i1, rfl, ht1, hi1, s1, nd1⟩; have hs1 := s1.size; simp at hs1; have A1 : Hid (Ds w w1 b g cap L i1 (o : Int) 0 0 ∧ NdAt w1 (fun x => w.heap.size + 1 ≤ x) c1 l ∧ i < i1 ∧ r = L.drop i1) := ⟨((Ds.refl H.out).alloc _).next s1, by simpa using nd1, hi1, ht1⟩; have c31 := s1.rd.c3; have l1 := s1.rd.bl; have m2 : roomAt w1 w.heap.size 6 = true := (s1.room (by simp) (by omega) 6).trans (roomNd_new _ _ _ _ (by simp)); have kb := HKB.out _ i1 ht1 s1.rd; have hw1 : w.heap.size ≠ w1.heap.size := (by omega); clear nd1 s1 ht1 hi1)
          | (go_at_call 35; refine (relation_d _ b g cap L i1 _ _ _ (A1.out.1.alloc _).rd).mono ?_; rintro e w2 ⟨rfl, hb2⟩; have hs2 := hb2.size; simp at hs2; have r3 : rowAt w2 w1.heap.size = some c1.cells := (rowAt_below hb2 _ (by simp)).trans (rowAt_at _ _ _ _ _ rfl); have k3 : roomAt w2 w1.heap.size 6 = true := (roomAt_below hb2 _ _ (by simp)).trans (roomNd_new _ _ _ _ rfl); have m3 : roomAt w2 w.heap.size 6 = true := (roomAt_below hb2 _ _ (by simp; omega)).trans ((roomAt_old _ _ _ _ (by omega)).trans m2); have A2 : Hid (Ds w w2 b g cap L i1 (o : Int) 0 0 ∧ NdAt w2 (fun x => w.heap.size + 1 ≤ x ∧ x ≠ w1.heap.size) c1 l) := ⟨(A1.out.1.alloc _).below hb2, A1.out.2.1.keep (fun x hx hl => ⟨hx, by omega⟩) (by omega) (fun x hx hl => (hb2.block x (by simp; omega)).trans (((Below.refl _ _).alloc (Nat.le_refl _) _).block x hl))⟩)
          | (go_at_call 36; refine (next_d _ b g cap L i1 _ _ _ A2.out.1.rd (HK.out i1 A1.out.2.2.2)).mono ?_; rintro e w3 ⟨rfl, s3⟩; have hs3 := s3.size; have r4 : rowAt w3 w1.heap.size = some c1.cells := (s3.row (by omega) (by omega)).trans r3; have k4 : roomAt w3 w1.heap.size 6 = true := (s3.room (by omega) (by omega) 6).trans k3; have m4 : roomAt w3 w.heap.size 6 = true := (s3.room (by omega) (by omega) 6).trans m3; have A3 : Hid (Ds w w3 b g cap L (i1 + 1) (o : Int) 0 0 ∧ NdAt w3 (fun x => w.heap.size + 1 ≤ x ∧ x ≠ w1.heap.size) c1 l) := ⟨A2.out.1.next s3, A2.out.2.stepP (b := b) (fun x hx => by omega) s3.gb⟩; have hw3 : w1.heap.size ≠ w3.heap.size := (by omega))
          | (go_at_call 37; refine (binary_d _ _ c1 c5).mono ?_; rintro e w7 ⟨blk, rfl, hblk, hY, hb7⟩; have hs7 := hb7.size; simp at hs7 hblk; have k7 : roomAt w7 w1.heap.size 6 = true := (roomAt_below hb7 _ _ (by simp; omega)).trans ((roomAt_old _ _ _ _ (by omega)).trans k5); have m7 : roomAt w7 w.heap.size 6 = true := (roomAt_below hb7 _ _ (by simp; omega)).trans ((roomAt_old _ _ _ _ (by omega)).trans m5); have m8 : ∀ X, roomAt (putRow w7 w1.heap.size X) w.heap.size 6 = true := fun X => (room_far _ _ _ _ _ (by omega)).trans m7))
        exact ret_cell1 rfl rfl (loadNd_row (rowNd_put _ _ _ (m8 _))) rfl (bad_d (((A5.out.alloc _).below hb7).old bl gl _ (by omega) _) bl gl he5)
      | ok y s =>
        rw [Rs.bind_ok]
        have S3 : Hid (∀ i1, i < i1 → r = L.drop i1 → ∀ X, DAt X b g cap L (i1 + 1) (o : Int) 0 0 → Calls Tryd.prog 34 #[.pointer (some ⟨b, 0, none⟩)] X (PostD X b g cap L (i1 + 1) o (.ok y s))) := fun i1 h1 e1 X hX => by
          have := S2.out i1 h1 X hX
          rwa [← List.tail_drop, ← e1, hr2] at this
        clear hr2 S2 hk
        go_enter Tryd.func19, Tryd.ntmps19
        go_wp2_with (first
          | (go_at_call 34; have hx := A3; clear hx; refine (S3.out i1 A1.out.2.2.1 A1.out.2.2.2 _ (A3.out.1.alloc _).rd).mono ?_; rintro e w5 ⟨c5, i5, rfl, ht5, hi5, s5, nd5⟩; have hs5 := s5.size; simp at hs5; have t5 : rowAt w5 w3.heap.size = some (hd (L.drop i1)).tk.cells := (s5.row (by simp) (by omega)).trans (rowAt_at _ _ _ _ _ rfl); have r5 : rowAt w5 w1.heap.size = some c1.cells := (s5.row (by simp; omega) (by omega)).trans ((rowAt_old _ _ _ (by omega)).trans r4); have k5 : roomAt w5 w1.heap.size 6 = true := (s5.room (by simp; omega) (by omega) 6).trans ((roomAt_old _ _ _ _ (by omega)).trans k4); have m5 : roomAt w5 w.heap.size 6 = true := (s5.room (by simp; omega) (by omega) 6).trans ((roomAt_old _ _ _ _ (by omega)).trans m4); have A5 : Hid (Ds w w5 b g cap L i5 (o : Int) 0 0 ∧ NdAt w5 (fun x => w.heap.size + 1 ≤ x ∧ x ≠ w1.heap.size) c1 l ∧ NdAt w5 (fun x => w.heap.size + 1 ≤ x ∧ x ≠ w1.heap.size) c5 y ∧ i1 + 1 < i5 ∧ s = L.drop i5) := ⟨(A3.out.1.alloc _).next s5, A3.out.2.stepP (b := b) (fun x hx => by omega) (gb_trans (gb_of_below (by go_grown) b) s5.gb), nd5.keep (fun x hx _ => by simp at hx; omega) (Nat.le_refl _) (fun _ _ _ => rfl), hi5, ht5⟩; have hw5 : w1.heap.size ≠ w5.heap.size := (by omega); have hw6 : w3.heap.size ≠ w5.heap.size := (by omega); clear nd5 ht5)
          | (go_at_call 34; refine (S1.out _ (H.out.alloc _)).mono ?_; rintro e w1 ⟨c1, i1, rfl, ht1, hi1, s1, nd1⟩; have hs1 := s1.size; simp at hs1; have A1 : Hid (Ds w w1 b g cap L i1 (o : Int) 0 0 ∧ NdAt w1 (fun x => w.heap.size + 1 ≤ x) c1 l ∧ i < i1 ∧ r = L.drop i1) := ⟨((Ds.refl H.out).alloc _).next s1, by simpa using nd1, hi1, ht1⟩; have c31 := s1.rd.c3; have l1 := s1.rd.bl; have m2 : roomAt w1 w.heap.size 6 = true := (s1.room (by simp) (by omega) 6).trans (roomNd_new _ _ _ _ (by simp)); have kb := HKB.out _ i1 ht1 s1.rd; have hw1 : w.heap.size ≠ w1.heap.size := (by omega); clear nd1 s1 ht1 hi1)
          | (go_at_call 35; refine (relation_d _ b g cap L i1 _ _ _ (A1.out.1.alloc _).rd).mono ?_; rintro e w2 ⟨rfl, hb2⟩; have hs2 := hb2.size; simp at hs2; have r3 : rowAt w2 w1.heap.size = some c1.cells := (rowAt_below hb2 _ (by simp)).trans (rowAt_at _ _ _ _ _ rfl); have k3 : roomAt w2 w1.heap.size 6 = true := (roomAt_below hb2 _ _ (by simp)).trans (roomNd_new _ _ _ _ rfl); have m3 : roomAt w2 w.heap.size 6 = true := (roomAt_below hb2 _ _ (by simp; omega)).trans ((roomAt_old _ _ _ _ (by omega)).trans m2); have A2 : Hid (Ds w w2 b g cap L i1 (o : Int) 0 0 ∧ NdAt w2 (fun x => w.heap.size + 1 ≤ x ∧ x ≠ w1.heap.size) c1 l) := ⟨(A1.out.1.alloc _).below hb2, A1.out.2.1.keep (fun x hx hl => ⟨hx, by omega⟩) (by omega) (fun x hx hl => (hb2.block x (by simp; omega)).trans (((Below.refl _ _).alloc (Nat.le_refl _) _).block x hl))⟩)
          | (go_at_call 36; refine (next_d _ b g cap L i1 _ _ _ A2.out.1.rd (HK.out i1 A1.out.2.2.2)).mono ?_; rintro e w3 ⟨rfl, s3⟩; have hs3 := s3.size; have r4 : rowAt w3 w1.heap.size = some c1.cells := (s3.row (by omega) (by omega)).trans r3; have k4 : roomAt w3 w1.heap.size 6 = true := (s3.room (by omega) (by omega) 6).trans k3; have m4 : roomAt w3 w.heap.size 6 = true := (s3.room (by omega) (by omega) 6).trans m3; have A3 : Hid (Ds w w3 b g cap L (i1 + 1) (o : Int) 0 0 ∧ NdAt w3 (fun x => w.heap.size + 1 ≤ x ∧ x ≠ w1.heap.size) c1 l) := ⟨A2.out.1.next s3, A2.out.2.stepP (b := b) (fun x hx => by omega) s3.gb⟩; have hw3 : w1.heap.size ≠ w3.heap.size := (by omega))
          | (go_at_call 37; refine (binary_d _ _ c1 c5).mono ?_; rintro e w7 ⟨blk, rfl, hblk, hY, hb7⟩; have hs7 := hb7.size; simp at hs7 hblk; have k7 : roomAt w7 w1.heap.size 6 = true := (roomAt_below hb7 _ _ (by simp; omega)).trans ((roomAt_old _ _ _ _ (by omega)).trans k5); have m7 : roomAt w7 w.heap.size 6 = true := (roomAt_below hb7 _ _ (by simp; omega)).trans ((roomAt_old _ _ _ _ (by omega)).trans m5); have m8 : ∀ X, roomAt (putRow w7 w1.heap.size X) w.heap.size 6 = true := fun X => (room_far _ _ _ _ _ (by omega)).trans m7))
        have e8 := A1.out.2.2.1
        have e9 := A1.out.2.2.2
        obtain ⟨S5, N1, N2, i5l, ht5⟩ := A5.out
        rw [e9]
        have kp : ∀ {c : Nc} {n : Nd}, NdAt w5 (fun x => w.heap.size + 1 ≤ x ∧ x ≠ w1.heap.size) c n → NdAt (putRow w7 w1.heap.size (⟨37, bs (hd (L.drop i1)).t, 0, false, some ⟨blk, 0, none⟩, 2, 2, ((hd (L.drop i1)).p : Int)⟩ : Nc).cells) (fun x => w.heap.size + 1 ≤ x ∧ x ≠ w1.heap.size) c n := fun hh => hh.keep (fun x hx _ => hx) (by rw [size_put]; omega) (fun x hx hl => (put_far _ _ _ _ hx.2).trans ((hb7.block x (by simp; omega)).trans (((Below.refl _ _).alloc (Nat.le_refl _) _).block x hl)))
        exact ret_cell1 rfl rfl (loadNd_row (rowNd_put _ _ _ (m8 _))) rfl (fin_d (((S5.alloc _).below hb7).old bl gl _ (by omega) _) bl gl (by omega) ht5 ((bin_made' ⟨by omega, by omega⟩ ((put_far _ _ _ _ (by omega)).trans hY) (kp N1) (kp N2)).keep (fun x hx _ => hx.1) (Nat.le_refl _) (fun _ _ _ => rfl)))
    · rw [if_neg hk]
      clear S2
      have HKB : Hid (∀ X i1, r = L.drop i1 → DAt X b g cap L i1 (o : Int) 0 0 → relB (hd (L.drop i1)) = false) := fun X i1 e hX => by rw [HO.out X i1 hX, ← e]; simpa using hk
      clear hk
      go_enter Tryd.func19, Tryd.ntmps19
      go_wp2_with (first
        | (go_at_call 34; refine (S1.out _ (H.out.alloc _)).mono ?_; rintro e w1 ⟨c1, i1, rfl, ht1, hi1, s1, nd1⟩; have hs1 := s1.size; simp at hs1; have A1 : Hid (Ds w w1 b g cap L i1 (o : Int) 0 0 ∧ NdAt w1 (fun x => w.heap.size + 1 ≤ x) c1 l ∧ i < i1 ∧ r = L.drop i1) := ⟨((Ds.refl H.out).alloc _).next s1, by simpa using nd1, hi1, ht1⟩; have c31 := s1.rd.c3; have l1 := s1.rd.bl; have m2 : roomAt w1 w.heap.size 6 = true := (s1.room (by simp) (by omega) 6).trans (roomNd_new _ _ _ _ (by simp)); have kb := HKB.out _ i1 ht1 s1.rd; have hw1 : w.heap.size ≠ w1.heap.size := (by omega); clear nd1 s1 ht1 hi1)
        | (go_at_call 35; refine (relation_d _ b g cap L i1 _ _ _ (A1.out.1.alloc _).rd).mono ?_; rintro e w2 ⟨rfl, hb2⟩; have hs2 := hb2.size; simp at hs2; have r3 : rowAt w2 w1.heap.size = some c1.cells := (rowAt_below hb2 _ (by simp)).trans (rowAt_at _ _ _ _ _ rfl); have k3 : roomAt w2 w1.heap.size 6 = true := (roomAt_below hb2 _ _ (by simp)).trans (roomNd_new _ _ _ _ rfl); have m3 : roomAt w2 w.heap.size 6 = true := (roomAt_below hb2 _ _ (by simp; omega)).trans ((roomAt_old _ _ _ _ (by omega)).trans m2); have A2 : Hid (Ds w w2 b g cap L i1 (o : Int) 0 0 ∧ NdAt w2 (fun x => w.heap.size + 1 ≤ x ∧ x ≠ w1.heap.size) c1 l) := ⟨(A1.out.1.alloc _).below hb2, A1.out.2.1.keep (fun x hx hl => ⟨hx, by omega⟩) (by omega) (fun x hx hl => (hb2.block x (by simp; omega)).trans (((Below.refl _ _).alloc (Nat.le_refl _) _).block x hl))⟩))
      exact ret_cell1 rfl rfl (loadNd_row (rowNd_put _ _ _ m3)) rfl (fin_d A2.out.1 bl gl A1.out.2.2.1 A1.out.2.2.2 (A2.out.2.keep (fun x hx _ => hx.1) (Nat.le_refl _) (fun _ _ _ => rfl)))
end Go.Proofs.YtejcjhoojpoamaaDoor
