/-
  Layer 9, the document's: terms, and sums of them.
-/
import Derived.Test.YtejcjhoojpoamaaDoorDsi
namespace Go.Proofs.YtejcjhoojpoamaaDoor
set_option linter.unusedVariables false
set_option linter.unusedSimpArgs false
open Go.ChangeShapes Go.WideShapes Go.ChangeAt Go.RowKit
attribute [local go_sem ↓] loadTk_seal storeTk_seal loadKeys_seal loadSigns_seal
attribute [local go_sem] loadTk_run storeTk_run rowAt_at rowAt_old rowAt_drew rowAt_drewN roomTk_new roomAt_old roomAt_drew roomAt_drewN putTk_new Tk.fold putRow_past rowTk_put size_put putRow_drew putRow_drewN alloc_drewN setCell_drewN Tk.at0 Tk.at1 Tk.at2 Tk.at3 Tk.size Tk.set0 Tk.set1 Tk.set2 Tk.set3 Tk.ne rowAt_set rowAt_far roomAt_far
attribute [local go_sem ↓] loadNd_seal storeNd_seal
attribute [local go_sem] loadNd_run storeNd_run roomNd_new putNd_new Nc.fold rowNd_put Nc.at0 Nc.at1 Nc.at2 Nc.at3 Nc.at4 Nc.at5 Nc.size Nc.set0 Nc.set1 Nc.set2 Nc.set3 Nc.set4 Nc.set5 Nc.ne
attribute [local go_sem] fieldTk0 fieldTk3
attribute [local go_sem ↓] bslNd_seal
attribute [local go_sem] bslNd1_run bslNd2_run

def Las (w X : World) (b g cap : Nat) (L : List Tok) (i o q : Nat) (R : Rs Nd) (f j : Nat) : Prop := ∃ l c f1, f1 ≤ f ∧ run f1 (.simpleL l) o (L.drop j) = R ∧ (L.length - j) * 40 + 15 ≤ f1 ∧ i < j ∧ rowAt X q = some (Nc.cells c) ∧ roomAt X q 6 = true ∧ roomAt X w.heap.size 6 = true ∧ Ds w X b g cap L j (o : Int) 0 0 ∧ NdAt X (fun x => w.heap.size + 1 ≤ x ∧ x ≠ q) c l
def Lds (w X : World) (b g cap : Nat) (L : List Tok) (q : Nat) (R : Rs Nd) : Prop := ∃ c i' o' p er, er ≠ 0 ∧ R = .bad p er ∧ rowAt X q = some (Nc.cells c) ∧ roomAt X q 6 = true ∧ roomAt X w.heap.size 6 = true ∧ Ds w X b g cap L i' o' er (p : Int)
set_option maxHeartbeats 4000000 in
set_option maxRecDepth 20000 in
theorem dsimple_step (f : Nat) (hT : ∀ f', f' ≤ f + 1 → Pd 78 .term f') : Pd 34 .simple (f + 1 + 1) := by
  intro w b g cap L i o h ho hok hf
  have bl := h.bl
  have gl := h.gl
  have hil := h.il
  have H : Hid (DAt w b g cap L i (o : Int) 0 0) := h
  have hf0 : (L.length - i) * 40 + 18 ≤ f + 1 + 1 := hf
  have okh := h.okt hok
  have P1 := sg_wd (s := [43]) okh (by decide)
  have P2 := sg_wd (s := [45]) okh (by decide)
  have HT : Hid (∀ f', f' ≤ f + 1 → Pd 78 .term f') := hT
  have HOK : Hid (∀ x ∈ L, okT x) := hok
  have SG : Hid (∀ X, DAt X b g cap L i (o : Int) 0 0 → (hd (L.drop i)).k ≠ 0 → Calls Tryd.prog 77 #[.pointer (some ⟨b, 0, none⟩), .bool true] X _) := fun X hX hk => signed_term f (hT f (by omega)) X b g cap L i o hX ho hok hk (by omega)
  have TM : Hid (∀ X, DAt X b g cap L i (o : Int) 0 0 → Calls Tryd.prog 78 #[.pointer (some ⟨b, 0, none⟩)] X (PostD X b g cap L i o (run f .term o (L.drop i)))) := fun X hX => hT f (by omega) X b g cap L i o hX ho hok (by show (L.length - i) * 40 + 14 ≤ f; omega)
  have SA : Hid (∀ X s, DAt X b g cap L i (o : Int) 0 0 → Calls Tryd.prog 76 #[.pointer (some ⟨b, 0, none⟩), .string (bs s)] X _) := fun X s hX => sign_d X b g cap L i _ _ _ hX s
  clear hT hok h hf okh
  rw [run]
  have HF : run (f + 1) .first o (L.drop i) = if wd (L.drop i) = [43] ∨ wd (L.drop i) = [45] then (beginR o (L.drop i)).bind fun x r => (run f .term (o + 1) r).bind fun y s => .ok (unN x y) s else run f .term o (L.drop i) := by rw [run]
  rw [HF]
  clear HF
  by_cases hpm : wd (L.drop i) = [43] ∨ wd (L.drop i) = [45]
  · rw [if_pos hpm]
    have hk0 : (hd (L.drop i)).k ≠ 0 := wd_kind fun e => by rw [e] at hpm; rcases hpm with h | h <;> cases h
    have GC : Hid (∀ X, DAt X b g cap L i (o : Int) 0 0 → Calls Tryd.prog 77 #[.pointer (some ⟨b, 0, none⟩), .bool true] X _) := fun X hX => SG.out X hX hk0
    generalize ((beginR o (L.drop i)).bind fun x r => (run f .term (o + 1) r).bind fun y s => Rs.ok (unN x y) s) = R1 at GC ⊢
    obtain ⟨R, hR⟩ : ∃ R, R = R1.bind fun l r => run (f + 1) (.simpleL l) o r := ⟨_, rfl⟩
    rw [← hR]
    have pm : (sgB 0 (hd (L.drop i)) [43] = true) ∨ (sgB 0 (hd (L.drop i)) [43] = false ∧ sgB 0 (hd (L.drop i)) [45] = true) := by
      rw [P1, P2]
      rcases hpm with e | e
      · left; rw [e]; rfl
      · right; rw [e]; exact ⟨rfl, rfl⟩
    clear SG TM P1 P2 hk0 hpm
    cases R1 with
    | bad p er =>
      rw [Rs.bind_bad] at hR
      have HR0 : Hid (R = .bad p er) := hR
      clear hR
      rcases pm with s1 | ⟨s1, s2⟩
      all_goals
        go_enter Tryd.func34, Tryd.ntmps34
        go_wp2_with (first
          | (go_at_call 76; have hx := B1; clear hx; refine (SA.out _ [45] B1.out.rd).mono ?_; rintro e w2 ⟨rfl, hb2⟩; have hs2 := hb2.size; have B2 : Hid (Ds w w2 b g cap L i (o : Int) 0 0) := B1.out.below hb2; have m2 : roomAt w2 w.heap.size 6 = true := (roomAt_below hb2 _ _ (by omega)).trans m1)
          | (go_at_call 76; refine (SA.out _ [43] (H.out.alloc _)).mono ?_; rintro e w1 ⟨rfl, hb1⟩; have hs1 := hb1.size; simp at hs1; have B1 : Hid (Ds w w1 b g cap L i (o : Int) 0 0) := ((Ds.refl H.out).alloc _).below hb1; have m1 : roomAt w1 w.heap.size 6 = true := (roomAt_below hb1 _ _ (by simp)).trans (roomNd_new _ _ _ _ (by simp)))
          | (go_at_call 77; refine (GC.out _ (B2.out.alloc _).rd).mono ?_; rintro e w5 ⟨c5, i5, o5, rfl, he5, s5⟩; have hs5 := s5.size; simp at hs5; have k5 : roomAt w5 w2.heap.size 6 = true := (s5.room (by simp) (by omega) 6).trans (roomNd_new _ _ _ _ (by simp)); have m5 : roomAt w5 w.heap.size 6 = true := (s5.room (by simp; omega) (by omega) 6).trans ((roomAt_old _ _ _ _ (by omega)).trans m2)))
        have q1 : w.heap.size < w2.heap.size := by omega
        have LP : Lds w (putRow w5 w2.heap.size c5.cells) b g cap L w2.heap.size R := ⟨c5, i5, o5, p, er, he5, HR0.out, rowNd_put _ _ _ k5, room_keep k5 _ rfl, (room_far _ _ _ _ _ (by omega)).trans m5, ((B2.out.alloc _).next s5).old bl gl _ (by omega) _⟩
        clear GC s5 HR0 he5
        generalize w2.heap.size = q at LP q1 ⊢
        go_loopg [] (L.length + 1) (fun gf X => ∃ j, (Las w X b g cap L i o q R (f + 1) j ∧ L.length + 1 ≤ j + gf) ∨ Lds w X b g cap L q R)
        case atStart => exact ⟨0, .inr LP⟩
        case round =>
          obtain ⟨j, ⟨⟨l, c, f1, hf1, hrun, hfu, hij, r0, k0, m0, SJ, nd⟩, hg⟩ | ⟨c, i', o', p, er, he, hR, r0, k0, m0, SJ⟩⟩ := hrel
          · have hjl := SJ.rd.il
            obtain ⟨g', rfl⟩ : ∃ g', gk = g' + 1 := ⟨gk - 1, by omega⟩
            obtain ⟨f2, rfl⟩ : ∃ f2, f1 = f2 + 1 := ⟨f1 - 1, by omega⟩
            have hsz := SJ.size
            have hql := row_lt r0
            have c30 := SJ.rd.c3
            have l0 := SJ.rd.bl
            have A0 : Hid (Ds w wr b g cap L j (o : Int) 0 0 ∧ NdAt wr (fun x => w.heap.size + 1 ≤ x ∧ x ≠ q) c l) := ⟨SJ, nd⟩
            rw [run] at hrun
            have kb0 := (rank_wd (SJ.rd.okt HOK.out)).2.1
            clear SJ nd LP
            by_cases hk : rankP (wd (L.drop j)) = 2
            · have kb : addB (hd (L.drop j)) = true := by rw [kb0]; simpa using hk
              have HK : Hid ((hd (L.drop j)).k ≠ 0) := wd_rank hk (by omega)
              rw [if_pos hk, List.tail_drop] at hrun
              have TT : Hid (∀ X, DAt X b g cap L (j + 1) (o : Int) 0 0 → Calls Tryd.prog 78 #[.pointer (some ⟨b, 0, none⟩)] X (PostD X b g cap L (j + 1) o (run f2 .term o (L.drop (j + 1))))) := fun X hX => HT.out f2 (by omega) X b g cap L (j + 1) o hX ho HOK.out (by show (L.length - (j + 1)) * 40 + 14 ≤ f2; omega)
              cases hr2 : run f2 .term o (L.drop (j + 1)) with
              | bad p er =>
                rw [hr2] at TT hrun
                rw [Rs.bind_bad] at hrun
                have HR : Hid (R = .bad p er) := hrun.symm
                clear hr2 hrun hk kb0
                go_wp2_with (first
                  | (go_at_call 79; refine (adds_d _ b g cap L j _ _ _ A0.out.1.rd).mono ?_; rintro e w2 ⟨rfl, hb2⟩; have hs2 := hb2.size; have r2 : rowAt w2 q = some c.cells := (rowAt_below hb2 _ hql).trans r0; have k2 : roomAt w2 q 6 = true := (roomAt_below hb2 _ _ hql).trans k0; have m2 : roomAt w2 w.heap.size 6 = true := (roomAt_below hb2 _ _ (by omega)).trans m0; have A2 : Hid (Ds w w2 b g cap L j (o : Int) 0 0 ∧ NdAt w2 (fun x => w.heap.size + 1 ≤ x ∧ x ≠ q) c l) := ⟨A0.out.1.below hb2, A0.out.2.stepP (b := b) (fun x hx => by omega) (gb_of_below hb2 b)⟩)
                  | (go_at_call 36; refine (next_d _ b g cap L j _ _ _ A2.out.1.rd HK.out).mono ?_; rintro e w3 ⟨rfl, s3⟩; have hs3 := s3.size; have r3 : rowAt w3 q = some c.cells := (s3.row (by omega) (by omega)).trans r2; have k3 : roomAt w3 q 6 = true := (s3.room (by omega) (by omega) 6).trans k2; have m3 : roomAt w3 w.heap.size 6 = true := (s3.room (by omega) (by omega) 6).trans m2; have A3 : Hid (Ds w w3 b g cap L (j + 1) (o : Int) 0 0 ∧ NdAt w3 (fun x => w.heap.size + 1 ≤ x ∧ x ≠ q) c l) := ⟨A2.out.1.next s3, A2.out.2.stepP (b := b) (fun x hx => by omega) s3.gb⟩; have hw3 : q ≠ w3.heap.size := (by omega))
                  | (go_at_call 78; refine (TT.out _ (A3.out.1.alloc _).rd).mono ?_; rintro e w5 ⟨c5, i5, o5, rfl, he5, s5⟩; have hs5 := s5.size; simp at hs5; have t5 : rowAt w5 w3.heap.size = some (hd (L.drop j)).tk.cells := (s5.row (by simp) (by omega)).trans (rowAt_at _ _ _ _ _ rfl); have r5 : rowAt w5 q = some c.cells := (s5.row (by simp; omega) (by omega)).trans ((rowAt_old _ _ _ (by omega)).trans r3); have k5 : roomAt w5 q 6 = true := (s5.room (by simp; omega) (by omega) 6).trans ((roomAt_old _ _ _ _ (by omega)).trans k3); have m5 : roomAt w5 w.heap.size 6 = true := (s5.room (by simp; omega) (by omega) 6).trans ((roomAt_old _ _ _ _ (by omega)).trans m3); have hw5 : q ≠ w5.heap.size := (by omega); have hw6 : w3.heap.size ≠ w5.heap.size := (by omega); have A5 : Hid (Ds w w5 b g cap L i5 o5 er (p : Int)) := (A3.out.1.alloc _).next s5)
                  | (go_at_call 37; refine (binary_d _ _ c c5).mono ?_; rintro e w7 ⟨blk, rfl, hblk, hY, hb7⟩; have hs7 := hb7.size; simp at hs7 hblk; have k7 : roomAt w7 q 6 = true := (roomAt_below hb7 _ _ (by simp; omega)).trans ((roomAt_old _ _ _ _ (by omega)).trans k5); have m7 : roomAt w7 w.heap.size 6 = true := (roomAt_below hb7 _ _ (by simp; omega)).trans ((roomAt_old _ _ _ _ (by omega)).trans m5)))
                have LN : Lds w (putRow w7 q (⟨37, bs (hd (L.drop j)).t, 0, false, some ⟨blk, 0, none⟩, 2, 2, ((hd (L.drop j)).p : Int)⟩ : Nc).cells) b g cap L q R := ⟨_, i5, o5, p, er, he5, HR.out, rowNd_put _ _ _ k7, room_keep k7 _ rfl, (room_far _ _ _ _ _ (by omega)).trans m7, ((A5.out.alloc _).below hb7).old bl gl _ (by omega) _⟩
                go_roundg g'
                case measure => omega
                case rel => exact ⟨0, .inr LN⟩
              | ok y s =>
                rw [hr2] at TT hrun
                rw [Rs.bind_ok] at hrun
                have HR : Hid (run f2 (.simpleL (binN (hd (L.drop j)) l y)) o s = R) := hrun
                clear hr2 hrun hk kb0
                go_wp2_with (first
                  | (go_at_call 79; refine (adds_d _ b g cap L j _ _ _ A0.out.1.rd).mono ?_; rintro e w2 ⟨rfl, hb2⟩; have hs2 := hb2.size; have r2 : rowAt w2 q = some c.cells := (rowAt_below hb2 _ hql).trans r0; have k2 : roomAt w2 q 6 = true := (roomAt_below hb2 _ _ hql).trans k0; have m2 : roomAt w2 w.heap.size 6 = true := (roomAt_below hb2 _ _ (by omega)).trans m0; have A2 : Hid (Ds w w2 b g cap L j (o : Int) 0 0 ∧ NdAt w2 (fun x => w.heap.size + 1 ≤ x ∧ x ≠ q) c l) := ⟨A0.out.1.below hb2, A0.out.2.stepP (b := b) (fun x hx => by omega) (gb_of_below hb2 b)⟩)
                  | (go_at_call 36; refine (next_d _ b g cap L j _ _ _ A2.out.1.rd HK.out).mono ?_; rintro e w3 ⟨rfl, s3⟩; have hs3 := s3.size; have r3 : rowAt w3 q = some c.cells := (s3.row (by omega) (by omega)).trans r2; have k3 : roomAt w3 q 6 = true := (s3.room (by omega) (by omega) 6).trans k2; have m3 : roomAt w3 w.heap.size 6 = true := (s3.room (by omega) (by omega) 6).trans m2; have A3 : Hid (Ds w w3 b g cap L (j + 1) (o : Int) 0 0 ∧ NdAt w3 (fun x => w.heap.size + 1 ≤ x ∧ x ≠ q) c l) := ⟨A2.out.1.next s3, A2.out.2.stepP (b := b) (fun x hx => by omega) s3.gb⟩; have hw3 : q ≠ w3.heap.size := (by omega))
                  | (go_at_call 78; refine (TT.out _ (A3.out.1.alloc _).rd).mono ?_; rintro e w5 ⟨c5, i5, rfl, ht5, hi5, s5, nd5⟩; have hs5 := s5.size; simp at hs5; have t5 : rowAt w5 w3.heap.size = some (hd (L.drop j)).tk.cells := (s5.row (by simp) (by omega)).trans (rowAt_at _ _ _ _ _ rfl); have r5 : rowAt w5 q = some c.cells := (s5.row (by simp; omega) (by omega)).trans ((rowAt_old _ _ _ (by omega)).trans r3); have k5 : roomAt w5 q 6 = true := (s5.room (by simp; omega) (by omega) 6).trans ((roomAt_old _ _ _ _ (by omega)).trans k3); have m5 : roomAt w5 w.heap.size 6 = true := (s5.room (by simp; omega) (by omega) 6).trans ((roomAt_old _ _ _ _ (by omega)).trans m3); have hw5 : q ≠ w5.heap.size := (by omega); have hw6 : w3.heap.size ≠ w5.heap.size := (by omega); have A5 : Hid (Ds w w5 b g cap L i5 (o : Int) 0 0 ∧ NdAt w5 (fun x => w.heap.size + 1 ≤ x ∧ x ≠ q) c l ∧ NdAt w5 (fun x => w.heap.size + 1 ≤ x ∧ x ≠ q) c5 y ∧ j + 1 < i5 ∧ s = L.drop i5) := ⟨(A3.out.1.alloc _).next s5, A3.out.2.stepP (b := b) (fun x hx => by omega) (gb_trans (gb_of_below (by go_grown) b) s5.gb), nd5.keep (fun x hx _ => by simp at hx; omega) (Nat.le_refl _) (fun _ _ _ => rfl), hi5, ht5⟩; clear nd5 ht5)
                  | (go_at_call 37; refine (binary_d _ _ c c5).mono ?_; rintro e w7 ⟨blk, rfl, hblk, hY, hb7⟩; have hs7 := hb7.size; simp at hs7 hblk; have k7 : roomAt w7 q 6 = true := (roomAt_below hb7 _ _ (by simp; omega)).trans ((roomAt_old _ _ _ _ (by omega)).trans k5); have m7 : roomAt w7 w.heap.size 6 = true := (roomAt_below hb7 _ _ (by simp; omega)).trans ((roomAt_old _ _ _ _ (by omega)).trans m5)))
                have LN : Las w (putRow w7 q (⟨37, bs (hd (L.drop j)).t, 0, false, some ⟨blk, 0, none⟩, 2, 2, ((hd (L.drop j)).p : Int)⟩ : Nc).cells) b g cap L i o q R (f + 1) i5 := by
                  obtain ⟨S5, N1, N2, i5l, ht5⟩ := A5.out
                  have kp : ∀ {c : Nc} {n : Nd}, NdAt w5 (fun x => w.heap.size + 1 ≤ x ∧ x ≠ q) c n → NdAt (putRow w7 q (⟨37, bs (hd (L.drop j)).t, 0, false, some ⟨blk, 0, none⟩, 2, 2, ((hd (L.drop j)).p : Int)⟩ : Nc).cells) (fun x => w.heap.size + 1 ≤ x ∧ x ≠ q) c n := fun hh => hh.keep (fun x hx _ => hx) (by rw [size_put]; omega) (fun x hx hl => (put_far _ _ _ _ hx.2).trans ((hb7.block x (by simp; omega)).trans (((Below.refl _ _).alloc (Nat.le_refl _) _).block x hl)))
                  exact ⟨binN (hd (L.drop j)) l y, _, f2, by omega, by rw [← ht5]; exact HR.out, by omega, by omega, rowNd_put _ _ _ k7, room_keep k7 _ rfl, (room_far _ _ _ _ _ (by omega)).trans m7, ((S5.alloc _).below hb7).old bl gl _ (by omega) _, bin_made' ⟨by omega, by omega⟩ ((put_far _ _ _ _ (by omega)).trans hY) (kp N1) (kp N2)⟩
                have e6 : j + 1 < i5 := A5.out.2.2.2.1
                go_roundg g'
                case measure => omega
                case rel => exact ⟨i5, .inl ⟨LN, by omega⟩⟩
            · have kb : addB (hd (L.drop j)) = false := by rw [kb0]; simpa using hk
              rw [if_neg hk] at hrun
              have HR : Hid (R = .ok l (L.drop j)) := hrun.symm
              clear hrun hk kb0
              go_wp2_with (go_at_call 79; refine (adds_d _ b g cap L j _ _ _ A0.out.1.rd).mono ?_; rintro e w2 ⟨rfl, hb2⟩; have hs2 := hb2.size; have r2 : rowAt w2 q = some c.cells := (rowAt_below hb2 _ hql).trans r0; have k2 : roomAt w2 q 6 = true := (roomAt_below hb2 _ _ hql).trans k0; have m2 : roomAt w2 w.heap.size 6 = true := (roomAt_below hb2 _ _ (by omega)).trans m0; have A2 : Hid (Ds w w2 b g cap L j (o : Int) 0 0 ∧ NdAt w2 (fun x => w.heap.size + 1 ≤ x ∧ x ≠ q) c l) := ⟨A0.out.1.below hb2, A0.out.2.stepP (b := b) (fun x hx => by omega) (gb_of_below hb2 b)⟩)
              rw [HR.out]
              exact ret_cell1 rfl rfl (loadNd_row (rowNd_put _ _ _ m2)) rfl (fin_d A2.out.1 bl gl hij rfl (A2.out.2.keep (fun x hx _ => hx.1) (Nat.le_refl _) (fun _ _ _ => rfl)))
          · have hsz := SJ.size
            have hql := row_lt r0
            have c30 := SJ.rd.c3
            have l0 := SJ.rd.bl
            have ee : (er == 0) = false := by simpa using he
            have HE : Hid (er ≠ 0 ∧ R = .bad p er ∧ Ds w wr b g cap L i' o' er (p : Int)) := ⟨he, hR, SJ⟩
            clear SJ LP he hR
            go_wp2
            rw [HE.out.2.1]
            exact ret_cell1 rfl rfl (loadNd_row (rowNd_put _ _ _ m0)) rfl (bad_d HE.out.2.2 bl gl HE.out.1)
    | ok l0 r0 =>
      rw [Rs.bind_ok] at hR
      have HR0 : Hid (run (f + 1) (.simpleL l0) o r0 = R) := hR.symm
      clear hR
      rcases pm with s1 | ⟨s1, s2⟩
      all_goals
        go_enter Tryd.func34, Tryd.ntmps34
        go_wp2_with (first
          | (go_at_call 76; have hx := B1; clear hx; refine (SA.out _ [45] B1.out.rd).mono ?_; rintro e w2 ⟨rfl, hb2⟩; have hs2 := hb2.size; have B2 : Hid (Ds w w2 b g cap L i (o : Int) 0 0) := B1.out.below hb2; have m2 : roomAt w2 w.heap.size 6 = true := (roomAt_below hb2 _ _ (by omega)).trans m1)
          | (go_at_call 76; refine (SA.out _ [43] (H.out.alloc _)).mono ?_; rintro e w1 ⟨rfl, hb1⟩; have hs1 := hb1.size; simp at hs1; have B1 : Hid (Ds w w1 b g cap L i (o : Int) 0 0) := ((Ds.refl H.out).alloc _).below hb1; have m1 : roomAt w1 w.heap.size 6 = true := (roomAt_below hb1 _ _ (by simp)).trans (roomNd_new _ _ _ _ (by simp)))
          | (go_at_call 77; refine (GC.out _ (B2.out.alloc _).rd).mono ?_; rintro e w5 ⟨c5, i5, rfl, ht5, hi5, s5, nd5⟩; have hs5 := s5.size; simp at hs5; have k5 : roomAt w5 w2.heap.size 6 = true := (s5.room (by simp) (by omega) 6).trans (roomNd_new _ _ _ _ (by simp)); have m5 : roomAt w5 w.heap.size 6 = true := (s5.room (by simp; omega) (by omega) 6).trans ((roomAt_old _ _ _ _ (by omega)).trans m2)))
        have q1 : w.heap.size < w2.heap.size := by omega
        have i5l := s5.rd.il
        have LP : Las w (putRow w5 w2.heap.size c5.cells) b g cap L i o w2.heap.size R (f + 1) i5 := ⟨l0, c5, f + 1, Nat.le_refl _, by rw [← ht5]; exact HR0.out, by omega, hi5, rowNd_put _ _ _ k5, room_keep k5 _ rfl, (room_far _ _ _ _ _ (by omega)).trans m5, ((B2.out.alloc _).next s5).old bl gl _ (by omega) _, nd5.keep (fun x hx hl => by simp at hx; exact ⟨by omega, by omega⟩) (by rw [size_put]; exact Nat.le_refl _) (fun x hx hl => put_far _ _ _ _ (by simp at hx; omega))⟩
        have hij5 : i < i5 := hi5
        clear GC s5 HR0 nd5 ht5
        generalize w2.heap.size = q at LP q1 ⊢
        go_loopg [] (L.length + 1) (fun gf X => ∃ j, (Las w X b g cap L i o q R (f + 1) j ∧ L.length + 1 ≤ j + gf) ∨ Lds w X b g cap L q R)
        case atStart => exact ⟨i5, .inl ⟨LP, by omega⟩⟩
        case round =>
          obtain ⟨j, ⟨⟨l, c, f1, hf1, hrun, hfu, hij, r0, k0, m0, SJ, nd⟩, hg⟩ | ⟨c, i', o', p, er, he, hR, r0, k0, m0, SJ⟩⟩ := hrel
          · have hjl := SJ.rd.il
            obtain ⟨g', rfl⟩ : ∃ g', gk = g' + 1 := ⟨gk - 1, by omega⟩
            obtain ⟨f2, rfl⟩ : ∃ f2, f1 = f2 + 1 := ⟨f1 - 1, by omega⟩
            have hsz := SJ.size
            have hql := row_lt r0
            have c30 := SJ.rd.c3
            have l0 := SJ.rd.bl
            have A0 : Hid (Ds w wr b g cap L j (o : Int) 0 0 ∧ NdAt wr (fun x => w.heap.size + 1 ≤ x ∧ x ≠ q) c l) := ⟨SJ, nd⟩
            rw [run] at hrun
            have kb0 := (rank_wd (SJ.rd.okt HOK.out)).2.1
            clear SJ nd LP
            by_cases hk : rankP (wd (L.drop j)) = 2
            · have kb : addB (hd (L.drop j)) = true := by rw [kb0]; simpa using hk
              have HK : Hid ((hd (L.drop j)).k ≠ 0) := wd_rank hk (by omega)
              rw [if_pos hk, List.tail_drop] at hrun
              have TT : Hid (∀ X, DAt X b g cap L (j + 1) (o : Int) 0 0 → Calls Tryd.prog 78 #[.pointer (some ⟨b, 0, none⟩)] X (PostD X b g cap L (j + 1) o (run f2 .term o (L.drop (j + 1))))) := fun X hX => HT.out f2 (by omega) X b g cap L (j + 1) o hX ho HOK.out (by show (L.length - (j + 1)) * 40 + 14 ≤ f2; omega)
              cases hr2 : run f2 .term o (L.drop (j + 1)) with
              | bad p er =>
                rw [hr2] at TT hrun
                rw [Rs.bind_bad] at hrun
                have HR : Hid (R = .bad p er) := hrun.symm
                clear hr2 hrun hk kb0
                go_wp2_with (first
                  | (go_at_call 79; refine (adds_d _ b g cap L j _ _ _ A0.out.1.rd).mono ?_; rintro e w2 ⟨rfl, hb2⟩; have hs2 := hb2.size; have r2 : rowAt w2 q = some c.cells := (rowAt_below hb2 _ hql).trans r0; have k2 : roomAt w2 q 6 = true := (roomAt_below hb2 _ _ hql).trans k0; have m2 : roomAt w2 w.heap.size 6 = true := (roomAt_below hb2 _ _ (by omega)).trans m0; have A2 : Hid (Ds w w2 b g cap L j (o : Int) 0 0 ∧ NdAt w2 (fun x => w.heap.size + 1 ≤ x ∧ x ≠ q) c l) := ⟨A0.out.1.below hb2, A0.out.2.stepP (b := b) (fun x hx => by omega) (gb_of_below hb2 b)⟩)
                  | (go_at_call 36; refine (next_d _ b g cap L j _ _ _ A2.out.1.rd HK.out).mono ?_; rintro e w3 ⟨rfl, s3⟩; have hs3 := s3.size; have r3 : rowAt w3 q = some c.cells := (s3.row (by omega) (by omega)).trans r2; have k3 : roomAt w3 q 6 = true := (s3.room (by omega) (by omega) 6).trans k2; have m3 : roomAt w3 w.heap.size 6 = true := (s3.room (by omega) (by omega) 6).trans m2; have A3 : Hid (Ds w w3 b g cap L (j + 1) (o : Int) 0 0 ∧ NdAt w3 (fun x => w.heap.size + 1 ≤ x ∧ x ≠ q) c l) := ⟨A2.out.1.next s3, A2.out.2.stepP (b := b) (fun x hx => by omega) s3.gb⟩; have hw3 : q ≠ w3.heap.size := (by omega))
                  | (go_at_call 78; refine (TT.out _ (A3.out.1.alloc _).rd).mono ?_; rintro e w5 ⟨c5, i5, o5, rfl, he5, s5⟩; have hs5 := s5.size; simp at hs5; have t5 : rowAt w5 w3.heap.size = some (hd (L.drop j)).tk.cells := (s5.row (by simp) (by omega)).trans (rowAt_at _ _ _ _ _ rfl); have r5 : rowAt w5 q = some c.cells := (s5.row (by simp; omega) (by omega)).trans ((rowAt_old _ _ _ (by omega)).trans r3); have k5 : roomAt w5 q 6 = true := (s5.room (by simp; omega) (by omega) 6).trans ((roomAt_old _ _ _ _ (by omega)).trans k3); have m5 : roomAt w5 w.heap.size 6 = true := (s5.room (by simp; omega) (by omega) 6).trans ((roomAt_old _ _ _ _ (by omega)).trans m3); have hw5 : q ≠ w5.heap.size := (by omega); have hw6 : w3.heap.size ≠ w5.heap.size := (by omega); have A5 : Hid (Ds w w5 b g cap L i5 o5 er (p : Int)) := (A3.out.1.alloc _).next s5)
                  | (go_at_call 37; refine (binary_d _ _ c c5).mono ?_; rintro e w7 ⟨blk, rfl, hblk, hY, hb7⟩; have hs7 := hb7.size; simp at hs7 hblk; have k7 : roomAt w7 q 6 = true := (roomAt_below hb7 _ _ (by simp; omega)).trans ((roomAt_old _ _ _ _ (by omega)).trans k5); have m7 : roomAt w7 w.heap.size 6 = true := (roomAt_below hb7 _ _ (by simp; omega)).trans ((roomAt_old _ _ _ _ (by omega)).trans m5)))
                have LN : Lds w (putRow w7 q (⟨37, bs (hd (L.drop j)).t, 0, false, some ⟨blk, 0, none⟩, 2, 2, ((hd (L.drop j)).p : Int)⟩ : Nc).cells) b g cap L q R := ⟨_, i5, o5, p, er, he5, HR.out, rowNd_put _ _ _ k7, room_keep k7 _ rfl, (room_far _ _ _ _ _ (by omega)).trans m7, ((A5.out.alloc _).below hb7).old bl gl _ (by omega) _⟩
                go_roundg g'
                case measure => omega
                case rel => exact ⟨0, .inr LN⟩
              | ok y s =>
                rw [hr2] at TT hrun
                rw [Rs.bind_ok] at hrun
                have HR : Hid (run f2 (.simpleL (binN (hd (L.drop j)) l y)) o s = R) := hrun
                clear hr2 hrun hk kb0
                go_wp2_with (first
                  | (go_at_call 79; refine (adds_d _ b g cap L j _ _ _ A0.out.1.rd).mono ?_; rintro e w2 ⟨rfl, hb2⟩; have hs2 := hb2.size; have r2 : rowAt w2 q = some c.cells := (rowAt_below hb2 _ hql).trans r0; have k2 : roomAt w2 q 6 = true := (roomAt_below hb2 _ _ hql).trans k0; have m2 : roomAt w2 w.heap.size 6 = true := (roomAt_below hb2 _ _ (by omega)).trans m0; have A2 : Hid (Ds w w2 b g cap L j (o : Int) 0 0 ∧ NdAt w2 (fun x => w.heap.size + 1 ≤ x ∧ x ≠ q) c l) := ⟨A0.out.1.below hb2, A0.out.2.stepP (b := b) (fun x hx => by omega) (gb_of_below hb2 b)⟩)
                  | (go_at_call 36; refine (next_d _ b g cap L j _ _ _ A2.out.1.rd HK.out).mono ?_; rintro e w3 ⟨rfl, s3⟩; have hs3 := s3.size; have r3 : rowAt w3 q = some c.cells := (s3.row (by omega) (by omega)).trans r2; have k3 : roomAt w3 q 6 = true := (s3.room (by omega) (by omega) 6).trans k2; have m3 : roomAt w3 w.heap.size 6 = true := (s3.room (by omega) (by omega) 6).trans m2; have A3 : Hid (Ds w w3 b g cap L (j + 1) (o : Int) 0 0 ∧ NdAt w3 (fun x => w.heap.size + 1 ≤ x ∧ x ≠ q) c l) := ⟨A2.out.1.next s3, A2.out.2.stepP (b := b) (fun x hx => by omega) s3.gb⟩; have hw3 : q ≠ w3.heap.size := (by omega))
                  | (go_at_call 78; refine (TT.out _ (A3.out.1.alloc _).rd).mono ?_; rintro e w5 ⟨c5, i5, rfl, ht5, hi5, s5, nd5⟩; have hs5 := s5.size; simp at hs5; have t5 : rowAt w5 w3.heap.size = some (hd (L.drop j)).tk.cells := (s5.row (by simp) (by omega)).trans (rowAt_at _ _ _ _ _ rfl); have r5 : rowAt w5 q = some c.cells := (s5.row (by simp; omega) (by omega)).trans ((rowAt_old _ _ _ (by omega)).trans r3); have k5 : roomAt w5 q 6 = true := (s5.room (by simp; omega) (by omega) 6).trans ((roomAt_old _ _ _ _ (by omega)).trans k3); have m5 : roomAt w5 w.heap.size 6 = true := (s5.room (by simp; omega) (by omega) 6).trans ((roomAt_old _ _ _ _ (by omega)).trans m3); have hw5 : q ≠ w5.heap.size := (by omega); have hw6 : w3.heap.size ≠ w5.heap.size := (by omega); have A5 : Hid (Ds w w5 b g cap L i5 (o : Int) 0 0 ∧ NdAt w5 (fun x => w.heap.size + 1 ≤ x ∧ x ≠ q) c l ∧ NdAt w5 (fun x => w.heap.size + 1 ≤ x ∧ x ≠ q) c5 y ∧ j + 1 < i5 ∧ s = L.drop i5) := ⟨(A3.out.1.alloc _).next s5, A3.out.2.stepP (b := b) (fun x hx => by omega) (gb_trans (gb_of_below (by go_grown) b) s5.gb), nd5.keep (fun x hx _ => by simp at hx; omega) (Nat.le_refl _) (fun _ _ _ => rfl), hi5, ht5⟩; clear nd5 ht5)
                  | (go_at_call 37; refine (binary_d _ _ c c5).mono ?_; rintro e w7 ⟨blk, rfl, hblk, hY, hb7⟩; have hs7 := hb7.size; simp at hs7 hblk; have k7 : roomAt w7 q 6 = true := (roomAt_below hb7 _ _ (by simp; omega)).trans ((roomAt_old _ _ _ _ (by omega)).trans k5); have m7 : roomAt w7 w.heap.size 6 = true := (roomAt_below hb7 _ _ (by simp; omega)).trans ((roomAt_old _ _ _ _ (by omega)).trans m5)))
                have LN : Las w (putRow w7 q (⟨37, bs (hd (L.drop j)).t, 0, false, some ⟨blk, 0, none⟩, 2, 2, ((hd (L.drop j)).p : Int)⟩ : Nc).cells) b g cap L i o q R (f + 1) i5 := by
                  obtain ⟨S5, N1, N2, i5l, ht5⟩ := A5.out
                  have kp : ∀ {c : Nc} {n : Nd}, NdAt w5 (fun x => w.heap.size + 1 ≤ x ∧ x ≠ q) c n → NdAt (putRow w7 q (⟨37, bs (hd (L.drop j)).t, 0, false, some ⟨blk, 0, none⟩, 2, 2, ((hd (L.drop j)).p : Int)⟩ : Nc).cells) (fun x => w.heap.size + 1 ≤ x ∧ x ≠ q) c n := fun hh => hh.keep (fun x hx _ => hx) (by rw [size_put]; omega) (fun x hx hl => (put_far _ _ _ _ hx.2).trans ((hb7.block x (by simp; omega)).trans (((Below.refl _ _).alloc (Nat.le_refl _) _).block x hl)))
                  exact ⟨binN (hd (L.drop j)) l y, _, f2, by omega, by rw [← ht5]; exact HR.out, by omega, by omega, rowNd_put _ _ _ k7, room_keep k7 _ rfl, (room_far _ _ _ _ _ (by omega)).trans m7, ((S5.alloc _).below hb7).old bl gl _ (by omega) _, bin_made' ⟨by omega, by omega⟩ ((put_far _ _ _ _ (by omega)).trans hY) (kp N1) (kp N2)⟩
                have e6 : j + 1 < i5 := A5.out.2.2.2.1
                go_roundg g'
                case measure => omega
                case rel => exact ⟨i5, .inl ⟨LN, by omega⟩⟩
            · have kb : addB (hd (L.drop j)) = false := by rw [kb0]; simpa using hk
              rw [if_neg hk] at hrun
              have HR : Hid (R = .ok l (L.drop j)) := hrun.symm
              clear hrun hk kb0
              go_wp2_with (go_at_call 79; refine (adds_d _ b g cap L j _ _ _ A0.out.1.rd).mono ?_; rintro e w2 ⟨rfl, hb2⟩; have hs2 := hb2.size; have r2 : rowAt w2 q = some c.cells := (rowAt_below hb2 _ hql).trans r0; have k2 : roomAt w2 q 6 = true := (roomAt_below hb2 _ _ hql).trans k0; have m2 : roomAt w2 w.heap.size 6 = true := (roomAt_below hb2 _ _ (by omega)).trans m0; have A2 : Hid (Ds w w2 b g cap L j (o : Int) 0 0 ∧ NdAt w2 (fun x => w.heap.size + 1 ≤ x ∧ x ≠ q) c l) := ⟨A0.out.1.below hb2, A0.out.2.stepP (b := b) (fun x hx => by omega) (gb_of_below hb2 b)⟩)
              rw [HR.out]
              exact ret_cell1 rfl rfl (loadNd_row (rowNd_put _ _ _ m2)) rfl (fin_d A2.out.1 bl gl hij rfl (A2.out.2.keep (fun x hx _ => hx.1) (Nat.le_refl _) (fun _ _ _ => rfl)))
          · have hsz := SJ.size
            have hql := row_lt r0
            have c30 := SJ.rd.c3
            have l0 := SJ.rd.bl
            have ee : (er == 0) = false := by simpa using he
            have HE : Hid (er ≠ 0 ∧ R = .bad p er ∧ Ds w wr b g cap L i' o' er (p : Int)) := ⟨he, hR, SJ⟩
            clear SJ LP he hR
            go_wp2
            rw [HE.out.2.1]
            exact ret_cell1 rfl rfl (loadNd_row (rowNd_put _ _ _ m0)) rfl (bad_d HE.out.2.2 bl gl HE.out.1)
  · rw [if_neg hpm]
    have s1 : sgB 0 (hd (L.drop i)) [43] = false := by rw [P1]; simp; exact fun e => hpm (.inl e)
    have s2 : sgB 0 (hd (L.drop i)) [45] = false := by rw [P2]; simp; exact fun e => hpm (.inr e)
    have GC : Hid (∀ X, DAt X b g cap L i (o : Int) 0 0 → Calls Tryd.prog 78 #[.pointer (some ⟨b, 0, none⟩)] X _) := TM.out
    generalize run f .term o (L.drop i) = R1 at GC ⊢
    obtain ⟨R, hR⟩ : ∃ R, R = R1.bind fun l r => run (f + 1) (.simpleL l) o r := ⟨_, rfl⟩
    rw [← hR]
    clear SG TM P1 P2 hpm
    cases R1 with
    | bad p er =>
      rw [Rs.bind_bad] at hR
      have HR0 : Hid (R = .bad p er) := hR
      clear hR
      go_enter Tryd.func34, Tryd.ntmps34
      go_wp2_with (first
        | (go_at_call 76; have hx := B1; clear hx; refine (SA.out _ [45] B1.out.rd).mono ?_; rintro e w2 ⟨rfl, hb2⟩; have hs2 := hb2.size; have B2 : Hid (Ds w w2 b g cap L i (o : Int) 0 0) := B1.out.below hb2; have m2 : roomAt w2 w.heap.size 6 = true := (roomAt_below hb2 _ _ (by omega)).trans m1)
        | (go_at_call 76; refine (SA.out _ [43] (H.out.alloc _)).mono ?_; rintro e w1 ⟨rfl, hb1⟩; have hs1 := hb1.size; simp at hs1; have B1 : Hid (Ds w w1 b g cap L i (o : Int) 0 0) := ((Ds.refl H.out).alloc _).below hb1; have m1 : roomAt w1 w.heap.size 6 = true := (roomAt_below hb1 _ _ (by simp)).trans (roomNd_new _ _ _ _ (by simp)))
        | (go_at_call 78; refine (GC.out _ (B2.out.alloc _).rd).mono ?_; rintro e w5 ⟨c5, i5, o5, rfl, he5, s5⟩; have hs5 := s5.size; simp at hs5; have k5 : roomAt w5 w2.heap.size 6 = true := (s5.room (by simp) (by omega) 6).trans (roomNd_new _ _ _ _ (by simp)); have m5 : roomAt w5 w.heap.size 6 = true := (s5.room (by simp; omega) (by omega) 6).trans ((roomAt_old _ _ _ _ (by omega)).trans m2)))
      have q1 : w.heap.size < w2.heap.size := by omega
      have LP : Lds w (putRow w5 w2.heap.size c5.cells) b g cap L w2.heap.size R := ⟨c5, i5, o5, p, er, he5, HR0.out, rowNd_put _ _ _ k5, room_keep k5 _ rfl, (room_far _ _ _ _ _ (by omega)).trans m5, ((B2.out.alloc _).next s5).old bl gl _ (by omega) _⟩
      clear GC s5 HR0 he5
      generalize w2.heap.size = q at LP q1 ⊢
      go_loopg [] (L.length + 1) (fun gf X => ∃ j, (Las w X b g cap L i o q R (f + 1) j ∧ L.length + 1 ≤ j + gf) ∨ Lds w X b g cap L q R)
      case atStart => exact ⟨0, .inr LP⟩
      case round =>
        obtain ⟨j, ⟨⟨l, c, f1, hf1, hrun, hfu, hij, r0, k0, m0, SJ, nd⟩, hg⟩ | ⟨c, i', o', p, er, he, hR, r0, k0, m0, SJ⟩⟩ := hrel
        · have hjl := SJ.rd.il
          obtain ⟨g', rfl⟩ : ∃ g', gk = g' + 1 := ⟨gk - 1, by omega⟩
          obtain ⟨f2, rfl⟩ : ∃ f2, f1 = f2 + 1 := ⟨f1 - 1, by omega⟩
          have hsz := SJ.size
          have hql := row_lt r0
          have c30 := SJ.rd.c3
          have l0 := SJ.rd.bl
          have A0 : Hid (Ds w wr b g cap L j (o : Int) 0 0 ∧ NdAt wr (fun x => w.heap.size + 1 ≤ x ∧ x ≠ q) c l) := ⟨SJ, nd⟩
          rw [run] at hrun
          have kb0 := (rank_wd (SJ.rd.okt HOK.out)).2.1
          clear SJ nd LP
          by_cases hk : rankP (wd (L.drop j)) = 2
          · have kb : addB (hd (L.drop j)) = true := by rw [kb0]; simpa using hk
            have HK : Hid ((hd (L.drop j)).k ≠ 0) := wd_rank hk (by omega)
            rw [if_pos hk, List.tail_drop] at hrun
            have TT : Hid (∀ X, DAt X b g cap L (j + 1) (o : Int) 0 0 → Calls Tryd.prog 78 #[.pointer (some ⟨b, 0, none⟩)] X (PostD X b g cap L (j + 1) o (run f2 .term o (L.drop (j + 1))))) := fun X hX => HT.out f2 (by omega) X b g cap L (j + 1) o hX ho HOK.out (by show (L.length - (j + 1)) * 40 + 14 ≤ f2; omega)
            cases hr2 : run f2 .term o (L.drop (j + 1)) with
            | bad p er =>
              rw [hr2] at TT hrun
              rw [Rs.bind_bad] at hrun
              have HR : Hid (R = .bad p er) := hrun.symm
              clear hr2 hrun hk kb0
              go_wp2_with (first
                | (go_at_call 79; refine (adds_d _ b g cap L j _ _ _ A0.out.1.rd).mono ?_; rintro e w2 ⟨rfl, hb2⟩; have hs2 := hb2.size; have r2 : rowAt w2 q = some c.cells := (rowAt_below hb2 _ hql).trans r0; have k2 : roomAt w2 q 6 = true := (roomAt_below hb2 _ _ hql).trans k0; have m2 : roomAt w2 w.heap.size 6 = true := (roomAt_below hb2 _ _ (by omega)).trans m0; have A2 : Hid (Ds w w2 b g cap L j (o : Int) 0 0 ∧ NdAt w2 (fun x => w.heap.size + 1 ≤ x ∧ x ≠ q) c l) := ⟨A0.out.1.below hb2, A0.out.2.stepP (b := b) (fun x hx => by omega) (gb_of_below hb2 b)⟩)
                | (go_at_call 36; refine (next_d _ b g cap L j _ _ _ A2.out.1.rd HK.out).mono ?_; rintro e w3 ⟨rfl, s3⟩; have hs3 := s3.size; have r3 : rowAt w3 q = some c.cells := (s3.row (by omega) (by omega)).trans r2; have k3 : roomAt w3 q 6 = true := (s3.room (by omega) (by omega) 6).trans k2; have m3 : roomAt w3 w.heap.size 6 = true := (s3.room (by omega) (by omega) 6).trans m2; have A3 : Hid (Ds w w3 b g cap L (j + 1) (o : Int) 0 0 ∧ NdAt w3 (fun x => w.heap.size + 1 ≤ x ∧ x ≠ q) c l) := ⟨A2.out.1.next s3, A2.out.2.stepP (b := b) (fun x hx => by omega) s3.gb⟩; have hw3 : q ≠ w3.heap.size := (by omega))
                | (go_at_call 78; refine (TT.out _ (A3.out.1.alloc _).rd).mono ?_; rintro e w5 ⟨c5, i5, o5, rfl, he5, s5⟩; have hs5 := s5.size; simp at hs5; have t5 : rowAt w5 w3.heap.size = some (hd (L.drop j)).tk.cells := (s5.row (by simp) (by omega)).trans (rowAt_at _ _ _ _ _ rfl); have r5 : rowAt w5 q = some c.cells := (s5.row (by simp; omega) (by omega)).trans ((rowAt_old _ _ _ (by omega)).trans r3); have k5 : roomAt w5 q 6 = true := (s5.room (by simp; omega) (by omega) 6).trans ((roomAt_old _ _ _ _ (by omega)).trans k3); have m5 : roomAt w5 w.heap.size 6 = true := (s5.room (by simp; omega) (by omega) 6).trans ((roomAt_old _ _ _ _ (by omega)).trans m3); have hw5 : q ≠ w5.heap.size := (by omega); have hw6 : w3.heap.size ≠ w5.heap.size := (by omega); have A5 : Hid (Ds w w5 b g cap L i5 o5 er (p : Int)) := (A3.out.1.alloc _).next s5)
                | (go_at_call 37; refine (binary_d _ _ c c5).mono ?_; rintro e w7 ⟨blk, rfl, hblk, hY, hb7⟩; have hs7 := hb7.size; simp at hs7 hblk; have k7 : roomAt w7 q 6 = true := (roomAt_below hb7 _ _ (by simp; omega)).trans ((roomAt_old _ _ _ _ (by omega)).trans k5); have m7 : roomAt w7 w.heap.size 6 = true := (roomAt_below hb7 _ _ (by simp; omega)).trans ((roomAt_old _ _ _ _ (by omega)).trans m5)))
              have LN : Lds w (putRow w7 q (⟨37, bs (hd (L.drop j)).t, 0, false, some ⟨blk, 0, none⟩, 2, 2, ((hd (L.drop j)).p : Int)⟩ : Nc).cells) b g cap L q R := ⟨_, i5, o5, p, er, he5, HR.out, rowNd_put _ _ _ k7, room_keep k7 _ rfl, (room_far _ _ _ _ _ (by omega)).trans m7, ((A5.out.alloc _).below hb7).old bl gl _ (by omega) _⟩
              go_roundg g'
              case measure => omega
              case rel => exact ⟨0, .inr LN⟩
            | ok y s =>
              rw [hr2] at TT hrun
              rw [Rs.bind_ok] at hrun
              have HR : Hid (run f2 (.simpleL (binN (hd (L.drop j)) l y)) o s = R) := hrun
              clear hr2 hrun hk kb0
              go_wp2_with (first
                | (go_at_call 79; refine (adds_d _ b g cap L j _ _ _ A0.out.1.rd).mono ?_; rintro e w2 ⟨rfl, hb2⟩; have hs2 := hb2.size; have r2 : rowAt w2 q = some c.cells := (rowAt_below hb2 _ hql).trans r0; have k2 : roomAt w2 q 6 = true := (roomAt_below hb2 _ _ hql).trans k0; have m2 : roomAt w2 w.heap.size 6 = true := (roomAt_below hb2 _ _ (by omega)).trans m0; have A2 : Hid (Ds w w2 b g cap L j (o : Int) 0 0 ∧ NdAt w2 (fun x => w.heap.size + 1 ≤ x ∧ x ≠ q) c l) := ⟨A0.out.1.below hb2, A0.out.2.stepP (b := b) (fun x hx => by omega) (gb_of_below hb2 b)⟩)
                | (go_at_call 36; refine (next_d _ b g cap L j _ _ _ A2.out.1.rd HK.out).mono ?_; rintro e w3 ⟨rfl, s3⟩; have hs3 := s3.size; have r3 : rowAt w3 q = some c.cells := (s3.row (by omega) (by omega)).trans r2; have k3 : roomAt w3 q 6 = true := (s3.room (by omega) (by omega) 6).trans k2; have m3 : roomAt w3 w.heap.size 6 = true := (s3.room (by omega) (by omega) 6).trans m2; have A3 : Hid (Ds w w3 b g cap L (j + 1) (o : Int) 0 0 ∧ NdAt w3 (fun x => w.heap.size + 1 ≤ x ∧ x ≠ q) c l) := ⟨A2.out.1.next s3, A2.out.2.stepP (b := b) (fun x hx => by omega) s3.gb⟩; have hw3 : q ≠ w3.heap.size := (by omega))
                | (go_at_call 78; refine (TT.out _ (A3.out.1.alloc _).rd).mono ?_; rintro e w5 ⟨c5, i5, rfl, ht5, hi5, s5, nd5⟩; have hs5 := s5.size; simp at hs5; have t5 : rowAt w5 w3.heap.size = some (hd (L.drop j)).tk.cells := (s5.row (by simp) (by omega)).trans (rowAt_at _ _ _ _ _ rfl); have r5 : rowAt w5 q = some c.cells := (s5.row (by simp; omega) (by omega)).trans ((rowAt_old _ _ _ (by omega)).trans r3); have k5 : roomAt w5 q 6 = true := (s5.room (by simp; omega) (by omega) 6).trans ((roomAt_old _ _ _ _ (by omega)).trans k3); have m5 : roomAt w5 w.heap.size 6 = true := (s5.room (by simp; omega) (by omega) 6).trans ((roomAt_old _ _ _ _ (by omega)).trans m3); have hw5 : q ≠ w5.heap.size := (by omega); have hw6 : w3.heap.size ≠ w5.heap.size := (by omega); have A5 : Hid (Ds w w5 b g cap L i5 (o : Int) 0 0 ∧ NdAt w5 (fun x => w.heap.size + 1 ≤ x ∧ x ≠ q) c l ∧ NdAt w5 (fun x => w.heap.size + 1 ≤ x ∧ x ≠ q) c5 y ∧ j + 1 < i5 ∧ s = L.drop i5) := ⟨(A3.out.1.alloc _).next s5, A3.out.2.stepP (b := b) (fun x hx => by omega) (gb_trans (gb_of_below (by go_grown) b) s5.gb), nd5.keep (fun x hx _ => by simp at hx; omega) (Nat.le_refl _) (fun _ _ _ => rfl), hi5, ht5⟩; clear nd5 ht5)
                | (go_at_call 37; refine (binary_d _ _ c c5).mono ?_; rintro e w7 ⟨blk, rfl, hblk, hY, hb7⟩; have hs7 := hb7.size; simp at hs7 hblk; have k7 : roomAt w7 q 6 = true := (roomAt_below hb7 _ _ (by simp; omega)).trans ((roomAt_old _ _ _ _ (by omega)).trans k5); have m7 : roomAt w7 w.heap.size 6 = true := (roomAt_below hb7 _ _ (by simp; omega)).trans ((roomAt_old _ _ _ _ (by omega)).trans m5)))
              have LN : Las w (putRow w7 q (⟨37, bs (hd (L.drop j)).t, 0, false, some ⟨blk, 0, none⟩, 2, 2, ((hd (L.drop j)).p : Int)⟩ : Nc).cells) b g cap L i o q R (f + 1) i5 := by
                obtain ⟨S5, N1, N2, i5l, ht5⟩ := A5.out
                have kp : ∀ {c : Nc} {n : Nd}, NdAt w5 (fun x => w.heap.size + 1 ≤ x ∧ x ≠ q) c n → NdAt (putRow w7 q (⟨37, bs (hd (L.drop j)).t, 0, false, some ⟨blk, 0, none⟩, 2, 2, ((hd (L.drop j)).p : Int)⟩ : Nc).cells) (fun x => w.heap.size + 1 ≤ x ∧ x ≠ q) c n := fun hh => hh.keep (fun x hx _ => hx) (by rw [size_put]; omega) (fun x hx hl => (put_far _ _ _ _ hx.2).trans ((hb7.block x (by simp; omega)).trans (((Below.refl _ _).alloc (Nat.le_refl _) _).block x hl)))
                exact ⟨binN (hd (L.drop j)) l y, _, f2, by omega, by rw [← ht5]; exact HR.out, by omega, by omega, rowNd_put _ _ _ k7, room_keep k7 _ rfl, (room_far _ _ _ _ _ (by omega)).trans m7, ((S5.alloc _).below hb7).old bl gl _ (by omega) _, bin_made' ⟨by omega, by omega⟩ ((put_far _ _ _ _ (by omega)).trans hY) (kp N1) (kp N2)⟩
              have e6 : j + 1 < i5 := A5.out.2.2.2.1
              go_roundg g'
              case measure => omega
              case rel => exact ⟨i5, .inl ⟨LN, by omega⟩⟩
          · have kb : addB (hd (L.drop j)) = false := by rw [kb0]; simpa using hk
            rw [if_neg hk] at hrun
            have HR : Hid (R = .ok l (L.drop j)) := hrun.symm
            clear hrun hk kb0
            go_wp2_with (go_at_call 79; refine (adds_d _ b g cap L j _ _ _ A0.out.1.rd).mono ?_; rintro e w2 ⟨rfl, hb2⟩; have hs2 := hb2.size; have r2 : rowAt w2 q = some c.cells := (rowAt_below hb2 _ hql).trans r0; have k2 : roomAt w2 q 6 = true := (roomAt_below hb2 _ _ hql).trans k0; have m2 : roomAt w2 w.heap.size 6 = true := (roomAt_below hb2 _ _ (by omega)).trans m0; have A2 : Hid (Ds w w2 b g cap L j (o : Int) 0 0 ∧ NdAt w2 (fun x => w.heap.size + 1 ≤ x ∧ x ≠ q) c l) := ⟨A0.out.1.below hb2, A0.out.2.stepP (b := b) (fun x hx => by omega) (gb_of_below hb2 b)⟩)
            rw [HR.out]
            exact ret_cell1 rfl rfl (loadNd_row (rowNd_put _ _ _ m2)) rfl (fin_d A2.out.1 bl gl hij rfl (A2.out.2.keep (fun x hx _ => hx.1) (Nat.le_refl _) (fun _ _ _ => rfl)))
        · have hsz := SJ.size
          have hql := row_lt r0
          have c30 := SJ.rd.c3
          have l0 := SJ.rd.bl
          have ee : (er == 0) = false := by simpa using he
          have HE : Hid (er ≠ 0 ∧ R = .bad p er ∧ Ds w wr b g cap L i' o' er (p : Int)) := ⟨he, hR, SJ⟩
          clear SJ LP he hR
          go_wp2
          rw [HE.out.2.1]
          exact ret_cell1 rfl rfl (loadNd_row (rowNd_put _ _ _ m0)) rfl (bad_d HE.out.2.2 bl gl HE.out.1)
    | ok l0 r0 =>
      rw [Rs.bind_ok] at hR
      have HR0 : Hid (run (f + 1) (.simpleL l0) o r0 = R) := hR.symm
      clear hR
      go_enter Tryd.func34, Tryd.ntmps34
      go_wp2_with (first
        | (go_at_call 76; have hx := B1; clear hx; refine (SA.out _ [45] B1.out.rd).mono ?_; rintro e w2 ⟨rfl, hb2⟩; have hs2 := hb2.size; have B2 : Hid (Ds w w2 b g cap L i (o : Int) 0 0) := B1.out.below hb2; have m2 : roomAt w2 w.heap.size 6 = true := (roomAt_below hb2 _ _ (by omega)).trans m1)
        | (go_at_call 76; refine (SA.out _ [43] (H.out.alloc _)).mono ?_; rintro e w1 ⟨rfl, hb1⟩; have hs1 := hb1.size; simp at hs1; have B1 : Hid (Ds w w1 b g cap L i (o : Int) 0 0) := ((Ds.refl H.out).alloc _).below hb1; have m1 : roomAt w1 w.heap.size 6 = true := (roomAt_below hb1 _ _ (by simp)).trans (roomNd_new _ _ _ _ (by simp)))
        | (go_at_call 78; refine (GC.out _ (B2.out.alloc _).rd).mono ?_; rintro e w5 ⟨c5, i5, rfl, ht5, hi5, s5, nd5⟩; have hs5 := s5.size; simp at hs5; have k5 : roomAt w5 w2.heap.size 6 = true := (s5.room (by simp) (by omega) 6).trans (roomNd_new _ _ _ _ (by simp)); have m5 : roomAt w5 w.heap.size 6 = true := (s5.room (by simp; omega) (by omega) 6).trans ((roomAt_old _ _ _ _ (by omega)).trans m2)))
      have q1 : w.heap.size < w2.heap.size := by omega
      have i5l := s5.rd.il
      have LP : Las w (putRow w5 w2.heap.size c5.cells) b g cap L i o w2.heap.size R (f + 1) i5 := ⟨l0, c5, f + 1, Nat.le_refl _, by rw [← ht5]; exact HR0.out, by omega, hi5, rowNd_put _ _ _ k5, room_keep k5 _ rfl, (room_far _ _ _ _ _ (by omega)).trans m5, ((B2.out.alloc _).next s5).old bl gl _ (by omega) _, nd5.keep (fun x hx hl => by simp at hx; exact ⟨by omega, by omega⟩) (by rw [size_put]; exact Nat.le_refl _) (fun x hx hl => put_far _ _ _ _ (by simp at hx; omega))⟩
      have hij5 : i < i5 := hi5
      clear GC s5 HR0 nd5 ht5
      generalize w2.heap.size = q at LP q1 ⊢
      go_loopg [] (L.length + 1) (fun gf X => ∃ j, (Las w X b g cap L i o q R (f + 1) j ∧ L.length + 1 ≤ j + gf) ∨ Lds w X b g cap L q R)
      case atStart => exact ⟨i5, .inl ⟨LP, by omega⟩⟩
      case round =>
        obtain ⟨j, ⟨⟨l, c, f1, hf1, hrun, hfu, hij, r0, k0, m0, SJ, nd⟩, hg⟩ | ⟨c, i', o', p, er, he, hR, r0, k0, m0, SJ⟩⟩ := hrel
        · have hjl := SJ.rd.il
          obtain ⟨g', rfl⟩ : ∃ g', gk = g' + 1 := ⟨gk - 1, by omega⟩
          obtain ⟨f2, rfl⟩ : ∃ f2, f1 = f2 + 1 := ⟨f1 - 1, by omega⟩
          have hsz := SJ.size
          have hql := row_lt r0
          have c30 := SJ.rd.c3
          have l0 := SJ.rd.bl
          have A0 : Hid (Ds w wr b g cap L j (o : Int) 0 0 ∧ NdAt wr (fun x => w.heap.size + 1 ≤ x ∧ x ≠ q) c l) := ⟨SJ, nd⟩
          rw [run] at hrun
          have kb0 := (rank_wd (SJ.rd.okt HOK.out)).2.1
          clear SJ nd LP
          by_cases hk : rankP (wd (L.drop j)) = 2
          · have kb : addB (hd (L.drop j)) = true := by rw [kb0]; simpa using hk
            have HK : Hid ((hd (L.drop j)).k ≠ 0) := wd_rank hk (by omega)
            rw [if_pos hk, List.tail_drop] at hrun
            have TT : Hid (∀ X, DAt X b g cap L (j + 1) (o : Int) 0 0 → Calls Tryd.prog 78 #[.pointer (some ⟨b, 0, none⟩)] X (PostD X b g cap L (j + 1) o (run f2 .term o (L.drop (j + 1))))) := fun X hX => HT.out f2 (by omega) X b g cap L (j + 1) o hX ho HOK.out (by show (L.length - (j + 1)) * 40 + 14 ≤ f2; omega)
            cases hr2 : run f2 .term o (L.drop (j + 1)) with
            | bad p er =>
              rw [hr2] at TT hrun
              rw [Rs.bind_bad] at hrun
              have HR : Hid (R = .bad p er) := hrun.symm
              clear hr2 hrun hk kb0
              go_wp2_with (first
                | (go_at_call 79; refine (adds_d _ b g cap L j _ _ _ A0.out.1.rd).mono ?_; rintro e w2 ⟨rfl, hb2⟩; have hs2 := hb2.size; have r2 : rowAt w2 q = some c.cells := (rowAt_below hb2 _ hql).trans r0; have k2 : roomAt w2 q 6 = true := (roomAt_below hb2 _ _ hql).trans k0; have m2 : roomAt w2 w.heap.size 6 = true := (roomAt_below hb2 _ _ (by omega)).trans m0; have A2 : Hid (Ds w w2 b g cap L j (o : Int) 0 0 ∧ NdAt w2 (fun x => w.heap.size + 1 ≤ x ∧ x ≠ q) c l) := ⟨A0.out.1.below hb2, A0.out.2.stepP (b := b) (fun x hx => by omega) (gb_of_below hb2 b)⟩)
                | (go_at_call 36; refine (next_d _ b g cap L j _ _ _ A2.out.1.rd HK.out).mono ?_; rintro e w3 ⟨rfl, s3⟩; have hs3 := s3.size; have r3 : rowAt w3 q = some c.cells := (s3.row (by omega) (by omega)).trans r2; have k3 : roomAt w3 q 6 = true := (s3.room (by omega) (by omega) 6).trans k2; have m3 : roomAt w3 w.heap.size 6 = true := (s3.room (by omega) (by omega) 6).trans m2; have A3 : Hid (Ds w w3 b g cap L (j + 1) (o : Int) 0 0 ∧ NdAt w3 (fun x => w.heap.size + 1 ≤ x ∧ x ≠ q) c l) := ⟨A2.out.1.next s3, A2.out.2.stepP (b := b) (fun x hx => by omega) s3.gb⟩; have hw3 : q ≠ w3.heap.size := (by omega))
                | (go_at_call 78; refine (TT.out _ (A3.out.1.alloc _).rd).mono ?_; rintro e w5 ⟨c5, i5, o5, rfl, he5, s5⟩; have hs5 := s5.size; simp at hs5; have t5 : rowAt w5 w3.heap.size = some (hd (L.drop j)).tk.cells := (s5.row (by simp) (by omega)).trans (rowAt_at _ _ _ _ _ rfl); have r5 : rowAt w5 q = some c.cells := (s5.row (by simp; omega) (by omega)).trans ((rowAt_old _ _ _ (by omega)).trans r3); have k5 : roomAt w5 q 6 = true := (s5.room (by simp; omega) (by omega) 6).trans ((roomAt_old _ _ _ _ (by omega)).trans k3); have m5 : roomAt w5 w.heap.size 6 = true := (s5.room (by simp; omega) (by omega) 6).trans ((roomAt_old _ _ _ _ (by omega)).trans m3); have hw5 : q ≠ w5.heap.size := (by omega); have hw6 : w3.heap.size ≠ w5.heap.size := (by omega); have A5 : Hid (Ds w w5 b g cap L i5 o5 er (p : Int)) := (A3.out.1.alloc _).next s5)
                | (go_at_call 37; refine (binary_d _ _ c c5).mono ?_; rintro e w7 ⟨blk, rfl, hblk, hY, hb7⟩; have hs7 := hb7.size; simp at hs7 hblk; have k7 : roomAt w7 q 6 = true := (roomAt_below hb7 _ _ (by simp; omega)).trans ((roomAt_old _ _ _ _ (by omega)).trans k5); have m7 : roomAt w7 w.heap.size 6 = true := (roomAt_below hb7 _ _ (by simp; omega)).trans ((roomAt_old _ _ _ _ (by omega)).trans m5)))
              have LN : Lds w (putRow w7 q (⟨37, bs (hd (L.drop j)).t, 0, false, some ⟨blk, 0, none⟩, 2, 2, ((hd (L.drop j)).p : Int)⟩ : Nc).cells) b g cap L q R := ⟨_, i5, o5, p, er, he5, HR.out, rowNd_put _ _ _ k7, room_keep k7 _ rfl, (room_far _ _ _ _ _ (by omega)).trans m7, ((A5.out.alloc _).below hb7).old bl gl _ (by omega) _⟩
              go_roundg g'
              case measure => omega
              case rel => exact ⟨0, .inr LN⟩
            | ok y s =>
              rw [hr2] at TT hrun
              rw [Rs.bind_ok] at hrun
              have HR : Hid (run f2 (.simpleL (binN (hd (L.drop j)) l y)) o s = R) := hrun
              clear hr2 hrun hk kb0
              go_wp2_with (first
                | (go_at_call 79; refine (adds_d _ b g cap L j _ _ _ A0.out.1.rd).mono ?_; rintro e w2 ⟨rfl, hb2⟩; have hs2 := hb2.size; have r2 : rowAt w2 q = some c.cells := (rowAt_below hb2 _ hql).trans r0; have k2 : roomAt w2 q 6 = true := (roomAt_below hb2 _ _ hql).trans k0; have m2 : roomAt w2 w.heap.size 6 = true := (roomAt_below hb2 _ _ (by omega)).trans m0; have A2 : Hid (Ds w w2 b g cap L j (o : Int) 0 0 ∧ NdAt w2 (fun x => w.heap.size + 1 ≤ x ∧ x ≠ q) c l) := ⟨A0.out.1.below hb2, A0.out.2.stepP (b := b) (fun x hx => by omega) (gb_of_below hb2 b)⟩)
                | (go_at_call 36; refine (next_d _ b g cap L j _ _ _ A2.out.1.rd HK.out).mono ?_; rintro e w3 ⟨rfl, s3⟩; have hs3 := s3.size; have r3 : rowAt w3 q = some c.cells := (s3.row (by omega) (by omega)).trans r2; have k3 : roomAt w3 q 6 = true := (s3.room (by omega) (by omega) 6).trans k2; have m3 : roomAt w3 w.heap.size 6 = true := (s3.room (by omega) (by omega) 6).trans m2; have A3 : Hid (Ds w w3 b g cap L (j + 1) (o : Int) 0 0 ∧ NdAt w3 (fun x => w.heap.size + 1 ≤ x ∧ x ≠ q) c l) := ⟨A2.out.1.next s3, A2.out.2.stepP (b := b) (fun x hx => by omega) s3.gb⟩; have hw3 : q ≠ w3.heap.size := (by omega))
                | (go_at_call 78; refine (TT.out _ (A3.out.1.alloc _).rd).mono ?_; rintro e w5 ⟨c5, i5, rfl, ht5, hi5, s5, nd5⟩; have hs5 := s5.size; simp at hs5; have t5 : rowAt w5 w3.heap.size = some (hd (L.drop j)).tk.cells := (s5.row (by simp) (by omega)).trans (rowAt_at _ _ _ _ _ rfl); have r5 : rowAt w5 q = some c.cells := (s5.row (by simp; omega) (by omega)).trans ((rowAt_old _ _ _ (by omega)).trans r3); have k5 : roomAt w5 q 6 = true := (s5.room (by simp; omega) (by omega) 6).trans ((roomAt_old _ _ _ _ (by omega)).trans k3); have m5 : roomAt w5 w.heap.size 6 = true := (s5.room (by simp; omega) (by omega) 6).trans ((roomAt_old _ _ _ _ (by omega)).trans m3); have hw5 : q ≠ w5.heap.size := (by omega); have hw6 : w3.heap.size ≠ w5.heap.size := (by omega); have A5 : Hid (Ds w w5 b g cap L i5 (o : Int) 0 0 ∧ NdAt w5 (fun x => w.heap.size + 1 ≤ x ∧ x ≠ q) c l ∧ NdAt w5 (fun x => w.heap.size + 1 ≤ x ∧ x ≠ q) c5 y ∧ j + 1 < i5 ∧ s = L.drop i5) := ⟨(A3.out.1.alloc _).next s5, A3.out.2.stepP (b := b) (fun x hx => by omega) (gb_trans (gb_of_below (by go_grown) b) s5.gb), nd5.keep (fun x hx _ => by simp at hx; omega) (Nat.le_refl _) (fun _ _ _ => rfl), hi5, ht5⟩; clear nd5 ht5)
                | (go_at_call 37; refine (binary_d _ _ c c5).mono ?_; rintro e w7 ⟨blk, rfl, hblk, hY, hb7⟩; have hs7 := hb7.size; simp at hs7 hblk; have k7 : roomAt w7 q 6 = true := (roomAt_below hb7 _ _ (by simp; omega)).trans ((roomAt_old _ _ _ _ (by omega)).trans k5); have m7 : roomAt w7 w.heap.size 6 = true := (roomAt_below hb7 _ _ (by simp; omega)).trans ((roomAt_old _ _ _ _ (by omega)).trans m5)))
              have LN : Las w (putRow w7 q (⟨37, bs (hd (L.drop j)).t, 0, false, some ⟨blk, 0, none⟩, 2, 2, ((hd (L.drop j)).p : Int)⟩ : Nc).cells) b g cap L i o q R (f + 1) i5 := by
                obtain ⟨S5, N1, N2, i5l, ht5⟩ := A5.out
                have kp : ∀ {c : Nc} {n : Nd}, NdAt w5 (fun x => w.heap.size + 1 ≤ x ∧ x ≠ q) c n → NdAt (putRow w7 q (⟨37, bs (hd (L.drop j)).t, 0, false, some ⟨blk, 0, none⟩, 2, 2, ((hd (L.drop j)).p : Int)⟩ : Nc).cells) (fun x => w.heap.size + 1 ≤ x ∧ x ≠ q) c n := fun hh => hh.keep (fun x hx _ => hx) (by rw [size_put]; omega) (fun x hx hl => (put_far _ _ _ _ hx.2).trans ((hb7.block x (by simp; omega)).trans (((Below.refl _ _).alloc (Nat.le_refl _) _).block x hl)))
                exact ⟨binN (hd (L.drop j)) l y, _, f2, by omega, by rw [← ht5]; exact HR.out, by omega, by omega, rowNd_put _ _ _ k7, room_keep k7 _ rfl, (room_far _ _ _ _ _ (by omega)).trans m7, ((S5.alloc _).below hb7).old bl gl _ (by omega) _, bin_made' ⟨by omega, by omega⟩ ((put_far _ _ _ _ (by omega)).trans hY) (kp N1) (kp N2)⟩
              have e6 : j + 1 < i5 := A5.out.2.2.2.1
              go_roundg g'
              case measure => omega
              case rel => exact ⟨i5, .inl ⟨LN, by omega⟩⟩
          · have kb : addB (hd (L.drop j)) = false := by rw [kb0]; simpa using hk
            rw [if_neg hk] at hrun
            have HR : Hid (R = .ok l (L.drop j)) := hrun.symm
            clear hrun hk kb0
            go_wp2_with (go_at_call 79; refine (adds_d _ b g cap L j _ _ _ A0.out.1.rd).mono ?_; rintro e w2 ⟨rfl, hb2⟩; have hs2 := hb2.size; have r2 : rowAt w2 q = some c.cells := (rowAt_below hb2 _ hql).trans r0; have k2 : roomAt w2 q 6 = true := (roomAt_below hb2 _ _ hql).trans k0; have m2 : roomAt w2 w.heap.size 6 = true := (roomAt_below hb2 _ _ (by omega)).trans m0; have A2 : Hid (Ds w w2 b g cap L j (o : Int) 0 0 ∧ NdAt w2 (fun x => w.heap.size + 1 ≤ x ∧ x ≠ q) c l) := ⟨A0.out.1.below hb2, A0.out.2.stepP (b := b) (fun x hx => by omega) (gb_of_below hb2 b)⟩)
            rw [HR.out]
            exact ret_cell1 rfl rfl (loadNd_row (rowNd_put _ _ _ m2)) rfl (fin_d A2.out.1 bl gl hij rfl (A2.out.2.keep (fun x hx _ => hx.1) (Nat.le_refl _) (fun _ _ _ => rfl)))
        · have hsz := SJ.size
          have hql := row_lt r0
          have c30 := SJ.rd.c3
          have l0 := SJ.rd.bl
          have ee : (er == 0) = false := by simpa using he
          have HE : Hid (er ≠ 0 ∧ R = .bad p er ∧ Ds w wr b g cap L i' o' er (p : Int)) := ⟨he, hR, SJ⟩
          clear SJ LP he hR
          go_wp2
          rw [HE.out.2.1]
          exact ret_cell1 rfl rfl (loadNd_row (rowNd_put _ _ _ m0)) rfl (bad_d HE.out.2.2 bl gl HE.out.1)
end Go.Proofs.YtejcjhoojpoamaaDoor
