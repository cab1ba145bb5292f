/-
  Layer 9, the document's: factors; all of its expressions.
-/
import Derived.Test.YtejcjhoojpoamaaDoorDst
import Derived.Test.YtejcjhoojpoamaaDoorDde
import Derived.Test.YtejcjhoojpoamaaDoorDtm
import Derived.Test.YtejcjhoojpoamaaDoorDsp
import Derived.Test.YtejcjhoojpoamaaDoorFac
namespace Go.Proofs.YtejcjhoojpoamaaDoor
set_option linter.unusedVariables false
set_option linter.unusedSimpArgs false
open Go.ChangeShapes Go.WideShapes Go.ChangeAt Go.RowKit
attribute [local go_sem ↓] loadTk_seal storeTk_seal loadKeys_seal loadSigns_seal
attribute [local go_sem] loadTk_run storeTk_run rowAt_at rowAt_old rowAt_drew rowAt_drewN roomTk_new roomAt_old roomAt_drew roomAt_drewN putTk_new Tk.fold putRow_past rowTk_put size_put putRow_drew putRow_drewN alloc_drewN setCell_drewN Tk.at0 Tk.at1 Tk.at2 Tk.at3 Tk.size Tk.set0 Tk.set1 Tk.set2 Tk.set3 Tk.ne rowAt_set rowAt_far roomAt_far
attribute [local go_sem ↓] loadNd_seal storeNd_seal
attribute [local go_sem] loadNd_run storeNd_run roomNd_new putNd_new Nc.fold rowNd_put Nc.at0 Nc.at1 Nc.at2 Nc.at3 Nc.at4 Nc.at5 Nc.size Nc.set0 Nc.set1 Nc.set2 Nc.set3 Nc.set4 Nc.set5 Nc.ne
attribute [local go_sem] fieldTk0 fieldTk3
attribute [local go_sem ↓] bslNd_seal
attribute [local go_sem] bslNd1_run bslNd2_run

theorem run_desig_no (f o : Nat) (t : List Tok) (h : (hd t).k ≠ 1) : run (f + 1) .desig o t = .bad (hd t).p 90 := by
  rw [run]; unfold nameR; rw [if_neg h, Rs.bind_bad]
theorem wd_kinds {t : List Tok} (h : wd t ≠ []) : (hd t).k = 2 ∨ (hd t).k = 6 := by
  unfold wd at h
  split at h
  · assumption
  · exact absurd rfl h
/-- Which kind of token a keyword is, and its text. -/
theorem key_of {t : List Tok} {s : Bs} (h : okT (hd t)) (hs : s ∈ keysL) (hw : wd t = s) : (hd t).k = 2 ∧ (hd t).t = s := by
  rcases wd_kinds (by rw [hw]; exact apart4 s hs) with k | k
  · refine ⟨k, ?_⟩
    unfold wd at hw; rw [if_pos (.inl k)] at hw; exact hw
  · exfalso
    unfold wd at hw; rw [if_pos (.inr k)] at hw
    exact apart2 s hs (by rw [← hw]; exact h.2 k)
theorem not_key {t : List Tok} {s : Bs} (hk : (hd t).k = 2) (hw : wd t ≠ s) : ((hd t).tk.t.toList == s) = false := by
  rw [← tkt]
  have : wd t = (hd t).t := by unfold wd; rw [if_pos (.inl hk)]
  rw [this] at hw
  simpa using hw
set_option maxHeartbeats 4000000 in
set_option maxRecDepth 20000 in
theorem dfactor_step (f : Nat) (hF : Pd 99 .factor (f + 1)) (hD : Pd 120 .desig (f + 1)) (hE : ∀ f', f' ≤ f + 1 → Pd 19 .expr f') : Pd 99 .factor (f + 1 + 1) := by
  intro w b g cap L i o h ho hok hf
  have bl := h.bl
  have gl := h.gl
  have hil := h.il
  have H : Hid (DAt w b g cap L i (o : Int) 0 0) := h
  have hf0 : (L.length - i) * 40 + 12 ≤ f + 1 + 1 := hf
  have nb3 : w.heap.size ≠ b := by omega
  have okh := h.okt hok
  have HF : Hid (Pd 99 .factor (f + 1)) := hF
  have HD : Hid (Pd 120 .desig (f + 1)) := hD
  have HX : Hid (∀ f', f' ≤ f + 1 → Pd 19 .expr f') := hE
  have HOK : Hid (∀ x ∈ L, okT x) := hok
  have SA : Hid (∀ X s, DAt X b g cap L i (o : Int) 0 0 → Calls Tryd.prog 76 #[.pointer (some ⟨b, 0, none⟩), .string (bs s)] X _) := fun X s hX => sign_d X b g cap L i _ _ _ hX s
  have w1' := sg_wd (s := [126]) okh (by decide)
  have w2' := sg_wd (s := [40]) okh (by decide)
  have w3' := sg_wd (s := [123]) okh (by decide)
  have hwk : wd (L.drop i) ≠ [] → (hd (L.drop i)).k = 2 ∨ (hd (L.drop i)).k = 6 := wd_kinds
  have ER : run (f + 1 + 1) .factor o (L.drop i) = if (hd (L.drop i)).k = 1 then run (f + 1) .desig o (L.drop i)
    else if (hd (L.drop i)).k = 3 then .ok (.mk 24 [] (hd (L.drop i)).n false [] (hd (L.drop i)).p) (L.drop (i + 1))
    else if (hd (L.drop i)).k = 4 then .ok (.mk 25 [] (hd (L.drop i)).n false [] (hd (L.drop i)).p) (L.drop (i + 1))
    else if (hd (L.drop i)).k = 5 then .ok (.mk 26 (hd (L.drop i)).t 0 false [] (hd (L.drop i)).p) (L.drop (i + 1))
    else if wd (L.drop i) = [78, 73, 76] then .ok (.mk 27 [] 0 false [] (hd (L.drop i)).p) (L.drop (i + 1))
    else if wd (L.drop i) = [84, 82, 85, 69] then .ok (.mk 28 [] 1 false [] (hd (L.drop i)).p) (L.drop (i + 1))
    else if wd (L.drop i) = [70, 65, 76, 83, 69] then .ok (.mk 28 [] 0 false [] (hd (L.drop i)).p) (L.drop (i + 1))
    else if wd (L.drop i) = [126] then unaR (f + 1) o (L.drop i)
    else if wd (L.drop i) = [123] then setR (f + 1) o (L.drop i)
    else if wd (L.drop i) = [40] then grpR (f + 1) o (L.drop i)
    else .bad (hd (L.drop i)).p 90 := by
    rw [run, List.tail_drop]; rfl
  rw [ER]
  clear ER hF hD hE hok h hf
  by_cases g1 : wd (L.drop i) = [126]
  · have d1 : sgB 0 (hd (L.drop i)) [126] = true := by rw [w1']; simpa using g1
    have kk := hwk (by rw [g1]; decide)
    rw [if_neg (by omega), if_neg (by omega), if_neg (by omega), if_neg (by omega), if_neg (by rw [g1]; decide), if_neg (by rw [g1]; decide), if_neg (by rw [g1]; decide), if_pos g1]
    have hk0 : (hd (L.drop i)).k ≠ 0 := by omega
    unfold unaR
    clear w1' w2' w3' hwk kk g1
    have GC : Hid (∀ X, DAt X b g cap L i (o : Int) 0 0 → Calls Tryd.prog 77 #[.pointer (some ⟨b, 0, none⟩), .bool false] X (PostD X b g cap L i o ((beginR o (L.drop i)).bind fun x r => (run (f + 1) .factor (o + 1) r).bind fun y s => Rs.ok (unN x y) s))) := fun X hX => signed_factor (f + 1) HF.out X b g cap L i o hX ho HOK.out hk0 (by omega)
    generalize ((beginR o (L.drop i)).bind fun x r => (run (f + 1) .factor (o + 1) r).bind fun y s => Rs.ok (unN x y) s) = R at GC ⊢
    clear hk0 okh
    cases R with
    | bad p er =>
      go_enter Tryd.func99, Tryd.ntmps99
      go_wp2_with (first
        | (go_at_call 77; refine (GC.out _ B4.out.rd).mono ?_; rintro e w5 ⟨c5, i5, o5, rfl, he5, s5⟩; have m5 : roomAt w5 w.heap.size 6 = true := (s5.room (by omega) (by omega) 6).trans m4)
        | (go_at_call 76; have hx := B3; clear hx; refine (SA.out _ [123] B3.out.rd).mono ?_; rintro e w4 ⟨rfl, hb4⟩; have hs4 := hb4.size; have B4 : Hid (Ds w w4 b g cap L i (o : Int) 0 0) := B3.out.below hb4; have m4 : roomAt w4 w.heap.size 6 = true := (roomAt_below hb4 _ _ (by omega)).trans m3; have t4 : rowAt w4 w1.heap.size = _ := (rowAt_below hb4 _ (by omega)).trans t3; have ct4 := rowAt_cell t4; have c34 := B4.out.rd.c3; have l4 := B4.out.rd.bl; have hw4 : w.heap.size < w4.heap.size := (by omega))
        | (go_at_call 76; have hx := B2; clear hx; refine (SA.out _ [40] B2.out.rd).mono ?_; rintro e w3 ⟨rfl, hb3⟩; have hs3 := hb3.size; have B3 : Hid (Ds w w3 b g cap L i (o : Int) 0 0) := B2.out.below hb3; have m3 : roomAt w3 w.heap.size 6 = true := (roomAt_below hb3 _ _ (by omega)).trans m2; have t3 : rowAt w3 w1.heap.size = _ := (rowAt_below hb3 _ (by omega)).trans t2)
        | (go_at_call 76; refine (SA.out _ [126] (B1.out.alloc _).rd).mono ?_; rintro e w2 ⟨rfl, hb2⟩; have hs2 := hb2.size; simp at hs2; have B2 : Hid (Ds w w2 b g cap L i (o : Int) 0 0) := (B1.out.alloc _).below hb2; have m2 : roomAt w2 w.heap.size 6 = true := (roomAt_below hb2 _ _ (by simp; omega)).trans ((roomAt_old _ _ _ _ (by omega)).trans m1); have t2 : rowAt w2 w1.heap.size = some (hd (L.drop i)).tk.cells := (rowAt_below hb2 _ (by simp)).trans (rowAt_at _ _ _ _ _ rfl))
        | (go_at_call 39; refine (peek_d _ b g cap L i _ _ _ (H.out.alloc _)).mono ?_; rintro e w1 ⟨rfl, hb1⟩; have hs1 := hb1.size; simp at hs1; have hl1 : w.heap.size < w1.heap.size := (by omega); have B1 : Hid (Ds w w1 b g cap L i (o : Int) 0 0) := ((Ds.refl H.out).alloc _).below hb1; have m1 : roomAt w1 w.heap.size 6 = true := (roomAt_below hb1 _ _ (by simp)).trans (roomNd_new _ _ _ _ (by simp))))
      exact ret_cell1 rfl rfl (loadNd_row (rowNd_put _ _ _ m5)) rfl (bad_d (B4.out.next s5) bl gl he5)
    | ok n t =>
      go_enter Tryd.func99, Tryd.ntmps99
      go_wp2_with (first
        | (go_at_call 77; refine (GC.out _ B4.out.rd).mono ?_; rintro e w5 ⟨c5, i5, rfl, ht5, hi5, s5, nd5⟩; have m5 : roomAt w5 w.heap.size 6 = true := (s5.room (by omega) (by omega) 6).trans m4)
        | (go_at_call 76; have hx := B3; clear hx; refine (SA.out _ [123] B3.out.rd).mono ?_; rintro e w4 ⟨rfl, hb4⟩; have hs4 := hb4.size; have B4 : Hid (Ds w w4 b g cap L i (o : Int) 0 0) := B3.out.below hb4; have m4 : roomAt w4 w.heap.size 6 = true := (roomAt_below hb4 _ _ (by omega)).trans m3; have t4 : rowAt w4 w1.heap.size = _ := (rowAt_below hb4 _ (by omega)).trans t3; have ct4 := rowAt_cell t4; have c34 := B4.out.rd.c3; have l4 := B4.out.rd.bl; have hw4 : w.heap.size < w4.heap.size := (by omega))
        | (go_at_call 76; have hx := B2; clear hx; refine (SA.out _ [40] B2.out.rd).mono ?_; rintro e w3 ⟨rfl, hb3⟩; have hs3 := hb3.size; have B3 : Hid (Ds w w3 b g cap L i (o : Int) 0 0) := B2.out.below hb3; have m3 : roomAt w3 w.heap.size 6 = true := (roomAt_below hb3 _ _ (by omega)).trans m2; have t3 : rowAt w3 w1.heap.size = _ := (rowAt_below hb3 _ (by omega)).trans t2)
        | (go_at_call 76; refine (SA.out _ [126] (B1.out.alloc _).rd).mono ?_; rintro e w2 ⟨rfl, hb2⟩; have hs2 := hb2.size; simp at hs2; have B2 : Hid (Ds w w2 b g cap L i (o : Int) 0 0) := (B1.out.alloc _).below hb2; have m2 : roomAt w2 w.heap.size 6 = true := (roomAt_below hb2 _ _ (by simp; omega)).trans ((roomAt_old _ _ _ _ (by omega)).trans m1); have t2 : rowAt w2 w1.heap.size = some (hd (L.drop i)).tk.cells := (rowAt_below hb2 _ (by simp)).trans (rowAt_at _ _ _ _ _ rfl))
        | (go_at_call 39; refine (peek_d _ b g cap L i _ _ _ (H.out.alloc _)).mono ?_; rintro e w1 ⟨rfl, hb1⟩; have hs1 := hb1.size; simp at hs1; have hl1 : w.heap.size < w1.heap.size := (by omega); have B1 : Hid (Ds w w1 b g cap L i (o : Int) 0 0) := ((Ds.refl H.out).alloc _).below hb1; have m1 : roomAt w1 w.heap.size 6 = true := (roomAt_below hb1 _ _ (by simp)).trans (roomNd_new _ _ _ _ (by simp))))
      exact ret_cell1 rfl rfl (loadNd_row (rowNd_put _ _ _ m5)) rfl (fin_d (B4.out.next s5) bl gl hi5 ht5 (nd5.keep (fun x hx _ => by omega) (Nat.le_refl _) (fun _ _ _ => rfl)))
  · have d1 : sgB 0 (hd (L.drop i)) [126] = false := by rw [w1']; simpa using g1
    by_cases g2 : wd (L.drop i) = [40]
    · have d2 : sgB 0 (hd (L.drop i)) [40] = true := by rw [w2']; simpa using g2
      have kk := hwk (by rw [g2]; decide)
      rw [if_neg (by omega), if_neg (by omega), if_neg (by omega), if_neg (by omega), if_neg (by rw [g2]; decide), if_neg (by rw [g2]; decide), if_neg (by rw [g2]; decide), if_neg g1, if_neg (by rw [g2]; decide), if_pos g2]
      have HK : Hid ((hd (L.drop i)).k ≠ 0) := by show (hd (L.drop i)).k ≠ 0; omega
      clear w1' w2' w3' hwk kk g2 g1 okh
      unfold grpR beginR
      by_cases ho24 : o = 24
      · subst ho24
        rw [if_pos rfl, Rs.bind_bad]
        have OP : Hid (∀ X, DAt X b g cap L i ((24 : Nat) : Int) 0 0 → Calls Tryd.prog 98 #[.pointer (some ⟨b, 0, none⟩), .int .i64 1] X _) := fun X hX => opens_f X b g cap L i hX
        go_enter Tryd.func99, Tryd.ntmps99
        go_wp2_with (first
          | (go_at_call 98; refine (OP.out _ B4.out.rd).mono ?_; rintro e w5 ⟨rfl, s5⟩; have hs5 := s5.size; have m5 : roomAt w5 w.heap.size 6 = true := (s5.room (by omega) (by omega) 6).trans m4; have c35 := s5.rd.c3; have l5 := s5.rd.bl; have hl5 : w.heap.size < w5.heap.size := (by omega))
          | (go_at_call 76; have hx := B3; clear hx; refine (SA.out _ [123] B3.out.rd).mono ?_; rintro e w4 ⟨rfl, hb4⟩; have hs4 := hb4.size; have B4 : Hid (Ds w w4 b g cap L i ((24 : Nat) : Int) 0 0) := B3.out.below hb4; have m4 : roomAt w4 w.heap.size 6 = true := (roomAt_below hb4 _ _ (by omega)).trans m3; have t4 : rowAt w4 w1.heap.size = _ := (rowAt_below hb4 _ (by omega)).trans t3; have ct4 := rowAt_cell t4; have c34 := B4.out.rd.c3; have l4 := B4.out.rd.bl; have hw4 : w.heap.size < w4.heap.size := (by omega))
          | (go_at_call 76; have hx := B2; clear hx; refine (SA.out _ [40] B2.out.rd).mono ?_; rintro e w3 ⟨rfl, hb3⟩; have hs3 := hb3.size; have B3 : Hid (Ds w w3 b g cap L i ((24 : Nat) : Int) 0 0) := B2.out.below hb3; have m3 : roomAt w3 w.heap.size 6 = true := (roomAt_below hb3 _ _ (by omega)).trans m2; have t3 : rowAt w3 w1.heap.size = _ := (rowAt_below hb3 _ (by omega)).trans t2)
          | (go_at_call 76; refine (SA.out _ [126] (B1.out.alloc _).rd).mono ?_; rintro e w2 ⟨rfl, hb2⟩; have hs2 := hb2.size; simp at hs2; have B2 : Hid (Ds w w2 b g cap L i ((24 : Nat) : Int) 0 0) := (B1.out.alloc _).below hb2; have m2 : roomAt w2 w.heap.size 6 = true := (roomAt_below hb2 _ _ (by simp; omega)).trans ((roomAt_old _ _ _ _ (by omega)).trans m1); have t2 : rowAt w2 w1.heap.size = some (hd (L.drop i)).tk.cells := (rowAt_below hb2 _ (by simp)).trans (rowAt_at _ _ _ _ _ rfl))
          | (go_at_call 39; refine (peek_d _ b g cap L i _ _ _ (H.out.alloc _)).mono ?_; rintro e w1 ⟨rfl, hb1⟩; have hs1 := hb1.size; simp at hs1; have hl1 : w.heap.size < w1.heap.size := (by omega); have B1 : Hid (Ds w w1 b g cap L i ((24 : Nat) : Int) 0 0) := ((Ds.refl H.out).alloc _).below hb1; have m1 : roomAt w1 w.heap.size 6 = true := (roomAt_below hb1 _ _ (by simp)).trans (roomNd_new _ _ _ _ (by simp))))
        exact ret_cell1 rfl rfl (loadNd_row (rowNd_put _ _ _ m5)) rfl (bad_d (B4.out.next s5) bl gl (by decide))
      · rw [if_neg ho24, Rs.bind_ok, List.tail_drop]
        have OP : Hid (∀ X, DAt X b g cap L i (o : Int) 0 0 → Calls Tryd.prog 98 #[.pointer (some ⟨b, 0, none⟩), .int .i64 1] X _) := fun X hX => opens_t X b g cap L i o hX (by omega) HK.out
        have EX : Hid (∀ X, DAt X b g cap L (i + 1) ((o : Int) + 1) 0 0 → Calls Tryd.prog 19 #[.pointer (some ⟨b, 0, none⟩)] X (PostD X b g cap L (i + 1) (o + 1) (run (f + 1) .expr (o + 1) (L.drop (i + 1))))) := fun X hX => HX.out (f + 1) (Nat.le_refl _) X b g cap L (i + 1) (o + 1) (by simpa using hX) (by omega) HOK.out (by show (L.length - (i + 1)) * 40 + 20 ≤ f + 1; omega)
        generalize run (f + 1) .expr (o + 1) (L.drop (i + 1)) = R at EX ⊢
        cases R with
        | bad p er =>
          rw [Rs.bind_bad]
          have MD : Hid (∀ X i6 o6, DAt X b g cap L i6 o6 er (p : Int) → er ≠ 0 → Calls Tryd.prog 118 #[.pointer (some ⟨b, 0, none⟩), .string (bs [41])] X _) := fun X i6 o6 hX he => mark_d X b g cap L i6 o6 er p hX [41] he (sg_dead he)
          go_enter Tryd.func99, Tryd.ntmps99
          go_wp2_with (first
            | (go_at_call 98; refine (OP.out _ B4.out.rd).mono ?_; rintro e w5 ⟨rfl, s5⟩; have hs5 := s5.size; have m5 : roomAt w5 w.heap.size 6 = true := (s5.room (by omega) (by omega) 6).trans m4; have c35 := s5.rd.c3; have l5 := s5.rd.bl; have hl5 : w.heap.size < w5.heap.size := (by omega))
            | (go_at_call 19; refine (EX.out _ s5.rd).mono ?_; rintro e w6 ⟨c6, i6, o6, rfl, he6, s6⟩; have hs6 := s6.size; have m6 : roomAt w6 w.heap.size 6 = true := (s6.room (by omega) (by omega) 6).trans m5; have B6 : Hid (Ds w w6 b g cap L i6 o6 er (p : Int)) := (B4.out.next s5).next s6)
            | (go_at_call 118; refine (MD.out _ i6 o6 (B6.out.alloc _).rd he6).mono ?_; rintro e w7 ⟨rfl, s7⟩; have hs7 := s7.size; simp at hs7; have r7 : rowAt w7 w6.heap.size = some c6.cells := (s7.row (by simp) (by omega)).trans (rowAt_at _ _ _ _ _ rfl); have m7 : roomAt w7 w.heap.size 6 = true := (s7.room (by simp; omega) (by omega) 6).trans ((roomAt_old _ _ _ _ (by omega)).trans m6); have A7 : Hid (Ds w w7 b g cap L i6 o6 er (p : Int)) := (B6.out.alloc _).next s7; have c27 := A7.out.rd.c2; have f27 := A7.out.rd.fz 2; have l7 := A7.out.rd.bl; have n67 : w6.heap.size ≠ b := (by omega))
            | (go_at_call 76; have hx := B3; clear hx; refine (SA.out _ [123] B3.out.rd).mono ?_; rintro e w4 ⟨rfl, hb4⟩; have hs4 := hb4.size; have B4 : Hid (Ds w w4 b g cap L i (o : Int) 0 0) := B3.out.below hb4; have m4 : roomAt w4 w.heap.size 6 = true := (roomAt_below hb4 _ _ (by omega)).trans m3; have t4 : rowAt w4 w1.heap.size = _ := (rowAt_below hb4 _ (by omega)).trans t3; have ct4 := rowAt_cell t4; have c34 := B4.out.rd.c3; have l4 := B4.out.rd.bl; have hw4 : w.heap.size < w4.heap.size := (by omega))
            | (go_at_call 76; have hx := B2; clear hx; refine (SA.out _ [40] B2.out.rd).mono ?_; rintro e w3 ⟨rfl, hb3⟩; have hs3 := hb3.size; have B3 : Hid (Ds w w3 b g cap L i (o : Int) 0 0) := B2.out.below hb3; have m3 : roomAt w3 w.heap.size 6 = true := (roomAt_below hb3 _ _ (by omega)).trans m2; have t3 : rowAt w3 w1.heap.size = _ := (rowAt_below hb3 _ (by omega)).trans t2)
            | (go_at_call 76; refine (SA.out _ [126] (B1.out.alloc _).rd).mono ?_; rintro e w2 ⟨rfl, hb2⟩; have hs2 := hb2.size; simp at hs2; have B2 : Hid (Ds w w2 b g cap L i (o : Int) 0 0) := (B1.out.alloc _).below hb2; have m2 : roomAt w2 w.heap.size 6 = true := (roomAt_below hb2 _ _ (by simp; omega)).trans ((roomAt_old _ _ _ _ (by omega)).trans m1); have t2 : rowAt w2 w1.heap.size = some (hd (L.drop i)).tk.cells := (rowAt_below hb2 _ (by simp)).trans (rowAt_at _ _ _ _ _ rfl))
            | (go_at_call 39; refine (peek_d _ b g cap L i _ _ _ (H.out.alloc _)).mono ?_; rintro e w1 ⟨rfl, hb1⟩; have hs1 := hb1.size; simp at hs1; have hl1 : w.heap.size < w1.heap.size := (by omega); have B1 : Hid (Ds w w1 b g cap L i (o : Int) 0 0) := ((Ds.refl H.out).alloc _).below hb1; have m1 : roomAt w1 w.heap.size 6 = true := (roomAt_below hb1 _ _ (by simp)).trans (roomNd_new _ _ _ _ (by simp))))
          exact ret_cell1 rfl rfl (loadNd_row (rowNd_put _ _ _ ((roomAt_far _ _ _ _ _ nb3).trans m7))) rfl (bad_d (A7.out.setO _) bl gl he6)
        | ok y s =>
          rw [Rs.bind_ok]
          unfold mustR
          by_cases hm : wd s = [41]
          · rw [if_pos hm, Rs.bind_ok]
            have MT : Hid (∀ X i6, s = L.drop i6 → DAt X b g cap L i6 ((o + 1 : Nat) : Int) 0 0 → Calls Tryd.prog 118 #[.pointer (some ⟨b, 0, none⟩), .string (bs [41])] X _) := fun X i6 e6 hX => mark_t X b g cap L i6 _ 0 hX [41] (wd_kind (by rw [← e6, hm]; decide)) (by rw [sg_wd (hX.okt HOK.out) (by decide), ← e6]; simpa using hm)
            clear hm
            go_enter Tryd.func99, Tryd.ntmps99
            go_wp2_with (first
              | (go_at_call 98; refine (OP.out _ B4.out.rd).mono ?_; rintro e w5 ⟨rfl, s5⟩; have hs5 := s5.size; have m5 : roomAt w5 w.heap.size 6 = true := (s5.room (by omega) (by omega) 6).trans m4; have c35 := s5.rd.c3; have l5 := s5.rd.bl; have hl5 : w.heap.size < w5.heap.size := (by omega))
              | (go_at_call 19; refine (EX.out _ s5.rd).mono ?_; rintro e w6 ⟨c6, i6, rfl, ht6, hi6, s6, nd6⟩; have hs6 := s6.size; have m6 : roomAt w6 w.heap.size 6 = true := (s6.room (by omega) (by omega) 6).trans m5; have B6 : Hid (Ds w w6 b g cap L i6 ((o + 1 : Nat) : Int) 0 0) := (B4.out.next s5).next s6)
              | (go_at_call 118; refine (MT.out _ i6 ht6 (B6.out.alloc _).rd).mono ?_; rintro e w7 ⟨rfl, s7⟩; have hs7 := s7.size; simp at hs7; have r7 : rowAt w7 w6.heap.size = some c6.cells := (s7.row (by simp) (by omega)).trans (rowAt_at _ _ _ _ _ rfl); have m7 : roomAt w7 w.heap.size 6 = true := (s7.room (by simp; omega) (by omega) 6).trans ((roomAt_old _ _ _ _ (by omega)).trans m6); have A7 : Hid (Ds w w7 b g cap L (i6 + 1) ((o + 1 : Nat) : Int) 0 0) := (B6.out.alloc _).next s7; have c27 := A7.out.rd.c2; have f27 := A7.out.rd.fz 2; have l7 := A7.out.rd.bl; have n67 : w6.heap.size ≠ b := (by omega))
              | (go_at_call 76; have hx := B3; clear hx; refine (SA.out _ [123] B3.out.rd).mono ?_; rintro e w4 ⟨rfl, hb4⟩; have hs4 := hb4.size; have B4 : Hid (Ds w w4 b g cap L i (o : Int) 0 0) := B3.out.below hb4; have m4 : roomAt w4 w.heap.size 6 = true := (roomAt_below hb4 _ _ (by omega)).trans m3; have t4 : rowAt w4 w1.heap.size = _ := (rowAt_below hb4 _ (by omega)).trans t3; have ct4 := rowAt_cell t4; have c34 := B4.out.rd.c3; have l4 := B4.out.rd.bl; have hw4 : w.heap.size < w4.heap.size := (by omega))
              | (go_at_call 76; have hx := B2; clear hx; refine (SA.out _ [40] B2.out.rd).mono ?_; rintro e w3 ⟨rfl, hb3⟩; have hs3 := hb3.size; have B3 : Hid (Ds w w3 b g cap L i (o : Int) 0 0) := B2.out.below hb3; have m3 : roomAt w3 w.heap.size 6 = true := (roomAt_below hb3 _ _ (by omega)).trans m2; have t3 : rowAt w3 w1.heap.size = _ := (rowAt_below hb3 _ (by omega)).trans t2)
              | (go_at_call 76; refine (SA.out _ [126] (B1.out.alloc _).rd).mono ?_; rintro e w2 ⟨rfl, hb2⟩; have hs2 := hb2.size; simp at hs2; have B2 : Hid (Ds w w2 b g cap L i (o : Int) 0 0) := (B1.out.alloc _).below hb2; have m2 : roomAt w2 w.heap.size 6 = true := (roomAt_below hb2 _ _ (by simp; omega)).trans ((roomAt_old _ _ _ _ (by omega)).trans m1); have t2 : rowAt w2 w1.heap.size = some (hd (L.drop i)).tk.cells := (rowAt_below hb2 _ (by simp)).trans (rowAt_at _ _ _ _ _ rfl))
              | (go_at_call 39; refine (peek_d _ b g cap L i _ _ _ (H.out.alloc _)).mono ?_; rintro e w1 ⟨rfl, hb1⟩; have hs1 := hb1.size; simp at hs1; have hl1 : w.heap.size < w1.heap.size := (by omega); have B1 : Hid (Ds w w1 b g cap L i (o : Int) 0 0) := ((Ds.refl H.out).alloc _).below hb1; have m1 : roomAt w1 w.heap.size 6 = true := (roomAt_below hb1 _ _ (by simp)).trans (roomNd_new _ _ _ _ (by simp))))
            exact ret_cell1 rfl rfl (loadNd_row (rowNd_put _ _ _ ((roomAt_far _ _ _ _ _ nb3).trans m7))) rfl (fin_d (A7.out.setO _) bl gl (by omega) (by rw [ht6, List.tail_drop]) ((nd6.keep (fun x hx _ => by omega) (Nat.le_refl _) (fun _ _ _ => rfl) : NdAt w6 (fun x => w.heap.size + 1 ≤ x) c6 y).keep (fun x hx _ => hx) (by simp; omega) (fun x hx hl => (Below.heap_setCell _ _ _ _ (by show x ≠ b; omega)).trans ((s7.gb.block x (by simp; omega) (fun e => by injection e with e; omega)).trans (((Below.refl _ _).alloc (Nat.le_refl _) _).block x hl)))))
          · rw [if_neg hm, Rs.bind_bad]
            have MT : Hid (∀ X i6, s = L.drop i6 → DAt X b g cap L i6 ((o + 1 : Nat) : Int) 0 0 → Calls Tryd.prog 118 #[.pointer (some ⟨b, 0, none⟩), .string (bs [41])] X _) := fun X i6 e6 hX => mark_f X b g cap L i6 _ 0 hX [41] (by rw [sg_wd (hX.okt HOK.out) (by decide), ← e6]; simpa using hm)
            clear hm
            go_enter Tryd.func99, Tryd.ntmps99
            go_wp2_with (first
              | (go_at_call 98; refine (OP.out _ B4.out.rd).mono ?_; rintro e w5 ⟨rfl, s5⟩; have hs5 := s5.size; have m5 : roomAt w5 w.heap.size 6 = true := (s5.room (by omega) (by omega) 6).trans m4; have c35 := s5.rd.c3; have l5 := s5.rd.bl; have hl5 : w.heap.size < w5.heap.size := (by omega))
              | (go_at_call 19; refine (EX.out _ s5.rd).mono ?_; rintro e w6 ⟨c6, i6, rfl, ht6, hi6, s6, nd6⟩; have hs6 := s6.size; have m6 : roomAt w6 w.heap.size 6 = true := (s6.room (by omega) (by omega) 6).trans m5; have B6 : Hid (Ds w w6 b g cap L i6 ((o + 1 : Nat) : Int) 0 0) := (B4.out.next s5).next s6)
              | (go_at_call 118; refine (MT.out _ i6 ht6 (B6.out.alloc _).rd).mono ?_; rintro e w7 ⟨rfl, s7⟩; have hs7 := s7.size; simp at hs7; have r7 : rowAt w7 w6.heap.size = some c6.cells := (s7.row (by simp) (by omega)).trans (rowAt_at _ _ _ _ _ rfl); have m7 : roomAt w7 w.heap.size 6 = true := (s7.room (by simp; omega) (by omega) 6).trans ((roomAt_old _ _ _ _ (by omega)).trans m6); have A7 : Hid (Ds w w7 b g cap L i6 ((o + 1 : Nat) : Int) 90 ((hd (L.drop i6)).p : Int)) := (B6.out.alloc _).next s7; have c27 := A7.out.rd.c2; have f27 := A7.out.rd.fz 2; have l7 := A7.out.rd.bl; have n67 : w6.heap.size ≠ b := (by omega))
              | (go_at_call 76; have hx := B3; clear hx; refine (SA.out _ [123] B3.out.rd).mono ?_; rintro e w4 ⟨rfl, hb4⟩; have hs4 := hb4.size; have B4 : Hid (Ds w w4 b g cap L i (o : Int) 0 0) := B3.out.below hb4; have m4 : roomAt w4 w.heap.size 6 = true := (roomAt_below hb4 _ _ (by omega)).trans m3; have t4 : rowAt w4 w1.heap.size = _ := (rowAt_below hb4 _ (by omega)).trans t3; have ct4 := rowAt_cell t4; have c34 := B4.out.rd.c3; have l4 := B4.out.rd.bl; have hw4 : w.heap.size < w4.heap.size := (by omega))
              | (go_at_call 76; have hx := B2; clear hx; refine (SA.out _ [40] B2.out.rd).mono ?_; rintro e w3 ⟨rfl, hb3⟩; have hs3 := hb3.size; have B3 : Hid (Ds w w3 b g cap L i (o : Int) 0 0) := B2.out.below hb3; have m3 : roomAt w3 w.heap.size 6 = true := (roomAt_below hb3 _ _ (by omega)).trans m2; have t3 : rowAt w3 w1.heap.size = _ := (rowAt_below hb3 _ (by omega)).trans t2)
              | (go_at_call 76; refine (SA.out _ [126] (B1.out.alloc _).rd).mono ?_; rintro e w2 ⟨rfl, hb2⟩; have hs2 := hb2.size; simp at hs2; have B2 : Hid (Ds w w2 b g cap L i (o : Int) 0 0) := (B1.out.alloc _).below hb2; have m2 : roomAt w2 w.heap.size 6 = true := (roomAt_below hb2 _ _ (by simp; omega)).trans ((roomAt_old _ _ _ _ (by omega)).trans m1); have t2 : rowAt w2 w1.heap.size = some (hd (L.drop i)).tk.cells := (rowAt_below hb2 _ (by simp)).trans (rowAt_at _ _ _ _ _ rfl))
              | (go_at_call 39; refine (peek_d _ b g cap L i _ _ _ (H.out.alloc _)).mono ?_; rintro e w1 ⟨rfl, hb1⟩; have hs1 := hb1.size; simp at hs1; have hl1 : w.heap.size < w1.heap.size := (by omega); have B1 : Hid (Ds w w1 b g cap L i (o : Int) 0 0) := ((Ds.refl H.out).alloc _).below hb1; have m1 : roomAt w1 w.heap.size 6 = true := (roomAt_below hb1 _ _ (by simp)).trans (roomNd_new _ _ _ _ (by simp))))
            rw [ht6]
            exact ret_cell1 rfl rfl (loadNd_row (rowNd_put _ _ _ ((roomAt_far _ _ _ _ _ nb3).trans m7))) rfl (bad_d (A7.out.setO _) bl gl (by decide))
    · have d2 : sgB 0 (hd (L.drop i)) [40] = false := by rw [w2']; simpa using g2
      by_cases g3 : wd (L.drop i) = [123]
      · have d3 : sgB 0 (hd (L.drop i)) [123] = true := by rw [w3']; simpa using g3
        have kk := hwk (by rw [g3]; decide)
        rw [if_neg (by omega), if_neg (by omega), if_neg (by omega), if_neg (by omega), if_neg (by rw [g3]; decide), if_neg (by rw [g3]; decide), if_neg (by rw [g3]; decide), if_neg g1, if_pos g3]
        have hk0 : (hd (L.drop i)).k ≠ 0 := by omega
        clear w1' w2' w3' hwk kk g3 g1 g2
        have GC : Hid (∀ X, DAt X b g cap L i (o : Int) 0 0 → Calls Tryd.prog 119 #[.pointer (some ⟨b, 0, none⟩)] X (PostD X b g cap L i o (setR (f + 1) o (L.drop i)))) := fun X hX => dset_any f (fun f' h' => HX.out f' (by omega)) X b g cap L i o hX ho HOK.out hk0 (by omega)
        generalize (setR (f + 1) o (L.drop i)) = R at GC ⊢
        clear hk0 okh
        cases R with
        | bad p er =>
          go_enter Tryd.func99, Tryd.ntmps99
          go_wp2_with (first
            | (go_at_call 119; refine (GC.out _ B4.out.rd).mono ?_; rintro e w5 ⟨c5, i5, o5, rfl, he5, s5⟩; have m5 : roomAt w5 w.heap.size 6 = true := (s5.room (by omega) (by omega) 6).trans m4)
            | (go_at_call 76; have hx := B3; clear hx; refine (SA.out _ [123] B3.out.rd).mono ?_; rintro e w4 ⟨rfl, hb4⟩; have hs4 := hb4.size; have B4 : Hid (Ds w w4 b g cap L i (o : Int) 0 0) := B3.out.below hb4; have m4 : roomAt w4 w.heap.size 6 = true := (roomAt_below hb4 _ _ (by omega)).trans m3; have t4 : rowAt w4 w1.heap.size = _ := (rowAt_below hb4 _ (by omega)).trans t3; have ct4 := rowAt_cell t4; have c34 := B4.out.rd.c3; have l4 := B4.out.rd.bl; have hw4 : w.heap.size < w4.heap.size := (by omega))
            | (go_at_call 76; have hx := B2; clear hx; refine (SA.out _ [40] B2.out.rd).mono ?_; rintro e w3 ⟨rfl, hb3⟩; have hs3 := hb3.size; have B3 : Hid (Ds w w3 b g cap L i (o : Int) 0 0) := B2.out.below hb3; have m3 : roomAt w3 w.heap.size 6 = true := (roomAt_below hb3 _ _ (by omega)).trans m2; have t3 : rowAt w3 w1.heap.size = _ := (rowAt_below hb3 _ (by omega)).trans t2)
            | (go_at_call 76; refine (SA.out _ [126] (B1.out.alloc _).rd).mono ?_; rintro e w2 ⟨rfl, hb2⟩; have hs2 := hb2.size; simp at hs2; have B2 : Hid (Ds w w2 b g cap L i (o : Int) 0 0) := (B1.out.alloc _).below hb2; have m2 : roomAt w2 w.heap.size 6 = true := (roomAt_below hb2 _ _ (by simp; omega)).trans ((roomAt_old _ _ _ _ (by omega)).trans m1); have t2 : rowAt w2 w1.heap.size = some (hd (L.drop i)).tk.cells := (rowAt_below hb2 _ (by simp)).trans (rowAt_at _ _ _ _ _ rfl))
            | (go_at_call 39; refine (peek_d _ b g cap L i _ _ _ (H.out.alloc _)).mono ?_; rintro e w1 ⟨rfl, hb1⟩; have hs1 := hb1.size; simp at hs1; have hl1 : w.heap.size < w1.heap.size := (by omega); have B1 : Hid (Ds w w1 b g cap L i (o : Int) 0 0) := ((Ds.refl H.out).alloc _).below hb1; have m1 : roomAt w1 w.heap.size 6 = true := (roomAt_below hb1 _ _ (by simp)).trans (roomNd_new _ _ _ _ (by simp))))
          exact ret_cell1 rfl rfl (loadNd_row (rowNd_put _ _ _ m5)) rfl (bad_d (B4.out.next s5) bl gl he5)
        | ok n t =>
          go_enter Tryd.func99, Tryd.ntmps99
          go_wp2_with (first
            | (go_at_call 119; refine (GC.out _ B4.out.rd).mono ?_; rintro e w5 ⟨c5, i5, rfl, ht5, hi5, s5, nd5⟩; have m5 : roomAt w5 w.heap.size 6 = true := (s5.room (by omega) (by omega) 6).trans m4)
            | (go_at_call 76; have hx := B3; clear hx; refine (SA.out _ [123] B3.out.rd).mono ?_; rintro e w4 ⟨rfl, hb4⟩; have hs4 := hb4.size; have B4 : Hid (Ds w w4 b g cap L i (o : Int) 0 0) := B3.out.below hb4; have m4 : roomAt w4 w.heap.size 6 = true := (roomAt_below hb4 _ _ (by omega)).trans m3; have t4 : rowAt w4 w1.heap.size = _ := (rowAt_below hb4 _ (by omega)).trans t3; have ct4 := rowAt_cell t4; have c34 := B4.out.rd.c3; have l4 := B4.out.rd.bl; have hw4 : w.heap.size < w4.heap.size := (by omega))
            | (go_at_call 76; have hx := B2; clear hx; refine (SA.out _ [40] B2.out.rd).mono ?_; rintro e w3 ⟨rfl, hb3⟩; have hs3 := hb3.size; have B3 : Hid (Ds w w3 b g cap L i (o : Int) 0 0) := B2.out.below hb3; have m3 : roomAt w3 w.heap.size 6 = true := (roomAt_below hb3 _ _ (by omega)).trans m2; have t3 : rowAt w3 w1.heap.size = _ := (rowAt_below hb3 _ (by omega)).trans t2)
            | (go_at_call 76; refine (SA.out _ [126] (B1.out.alloc _).rd).mono ?_; rintro e w2 ⟨rfl, hb2⟩; have hs2 := hb2.size; simp at hs2; have B2 : Hid (Ds w w2 b g cap L i (o : Int) 0 0) := (B1.out.alloc _).below hb2; have m2 : roomAt w2 w.heap.size 6 = true := (roomAt_below hb2 _ _ (by simp; omega)).trans ((roomAt_old _ _ _ _ (by omega)).trans m1); have t2 : rowAt w2 w1.heap.size = some (hd (L.drop i)).tk.cells := (rowAt_below hb2 _ (by simp)).trans (rowAt_at _ _ _ _ _ rfl))
            | (go_at_call 39; refine (peek_d _ b g cap L i _ _ _ (H.out.alloc _)).mono ?_; rintro e w1 ⟨rfl, hb1⟩; have hs1 := hb1.size; simp at hs1; have hl1 : w.heap.size < w1.heap.size := (by omega); have B1 : Hid (Ds w w1 b g cap L i (o : Int) 0 0) := ((Ds.refl H.out).alloc _).below hb1; have m1 : roomAt w1 w.heap.size 6 = true := (roomAt_below hb1 _ _ (by simp)).trans (roomNd_new _ _ _ _ (by simp))))
          exact ret_cell1 rfl rfl (loadNd_row (rowNd_put _ _ _ m5)) rfl (fin_d (B4.out.next s5) bl gl hi5 ht5 (nd5.keep (fun x hx _ => by omega) (Nat.le_refl _) (fun _ _ _ => rfl)))
      · have d3 : sgB 0 (hd (L.drop i)) [123] = false := by rw [w3']; simpa using g3
        clear w1' w2' w3'
        rw [if_neg g1, if_neg g3, if_neg g2]
        by_cases k3 : (hd (L.drop i)).k = 3
        · have e3 : ((hd (L.drop i)).tk.k == 3) = true := by simpa [Tok.tk] using k3
          rw [if_neg (by omega), if_pos k3]
          have HK : Hid ((hd (L.drop i)).k ≠ 0) := by show (hd (L.drop i)).k ≠ 0; omega
          clear hwk k3 g1 g2 g3 okh
          go_enter Tryd.func99, Tryd.ntmps99
          go_upto_region 20 with (first
            | (go_at_call 76; have hx := B3; clear hx; refine (SA.out _ [123] B3.out.rd).mono ?_; rintro e w4 ⟨rfl, hb4⟩; have hs4 := hb4.size; have B4 : Hid (Ds w w4 b g cap L i (o : Int) 0 0) := B3.out.below hb4; have m4 : roomAt w4 w.heap.size 6 = true := (roomAt_below hb4 _ _ (by omega)).trans m3; have t4 : rowAt w4 w1.heap.size = _ := (rowAt_below hb4 _ (by omega)).trans t3; have ct4 := rowAt_cell t4; have c34 := B4.out.rd.c3; have l4 := B4.out.rd.bl; have hw4 : w.heap.size < w4.heap.size := (by omega))
            | (go_at_call 76; have hx := B2; clear hx; refine (SA.out _ [40] B2.out.rd).mono ?_; rintro e w3 ⟨rfl, hb3⟩; have hs3 := hb3.size; have B3 : Hid (Ds w w3 b g cap L i (o : Int) 0 0) := B2.out.below hb3; have m3 : roomAt w3 w.heap.size 6 = true := (roomAt_below hb3 _ _ (by omega)).trans m2; have t3 : rowAt w3 w1.heap.size = _ := (rowAt_below hb3 _ (by omega)).trans t2)
            | (go_at_call 76; refine (SA.out _ [126] (B1.out.alloc _).rd).mono ?_; rintro e w2 ⟨rfl, hb2⟩; have hs2 := hb2.size; simp at hs2; have B2 : Hid (Ds w w2 b g cap L i (o : Int) 0 0) := (B1.out.alloc _).below hb2; have m2 : roomAt w2 w.heap.size 6 = true := (roomAt_below hb2 _ _ (by simp; omega)).trans ((roomAt_old _ _ _ _ (by omega)).trans m1); have t2 : rowAt w2 w1.heap.size = some (hd (L.drop i)).tk.cells := (rowAt_below hb2 _ (by simp)).trans (rowAt_at _ _ _ _ _ rfl))
            | (go_at_call 39; refine (peek_d _ b g cap L i _ _ _ (H.out.alloc _)).mono ?_; rintro e w1 ⟨rfl, hb1⟩; have hs1 := hb1.size; simp at hs1; have hl1 : w.heap.size < w1.heap.size := (by omega); have B1 : Hid (Ds w w1 b g cap L i (o : Int) 0 0) := ((Ds.refl H.out).alloc _).below hb1; have m1 : roomAt w1 w.heap.size 6 = true := (roomAt_below hb1 _ _ (by simp)).trans (roomNd_new _ _ _ _ (by simp))))
          have t4d : rowAt w4.drew w1.heap.size = some (hd (L.drop i)).tk.cells := (rowAt_drew _ _).trans t4
          refine wp_region_held_drew (S := (fun X => rowAt X w1.heap.size = some (hd (L.drop i)).tk.cells)) (by kernel_rfl) t4d (fun hHeld => ?_)
          refine wpAnyH_take (i := 0) (v := ?_) rfl (by kernel_rfl) (by kernel_rfl) (by kernel_rfl) (fun _ _ _ h => h) (Or.inl ⟨by rfl, ?y0a⟩) hHeld ?r0a
          case y0a => (intro w2 hSw; go_simp; try rfl)
          simp only [Act.put, List.setIfInBounds_toArray, List.set_cons_zero, List.set_cons_succ]
          refine wpAnyH_take (i := 1) (v := ?_) rfl (by kernel_rfl) (by kernel_rfl) (by kernel_rfl) (fun _ _ _ h => h) (Or.inl ⟨by rfl, ?y1a⟩) hHeld ?r1a
          case y1a => (intro w2 hSw; have c3 := rowAt_cell hSw; go_simp; try rfl)
          simp only [Act.put, List.setIfInBounds_toArray, List.set_cons_zero, List.set_cons_succ]
          refine wpAnyH_take (i := 2) (v := ?_) rfl (by kernel_rfl) (by kernel_rfl) (by kernel_rfl) (fun _ _ _ h => h) (Or.inl ⟨by rfl, ?y2a⟩) hHeld ?r2a
          case y2a => (intro w2 hSw; go_simp; try rfl)
          simp only [Act.put, List.setIfInBounds_toArray, List.set_cons_zero, List.set_cons_succ]
          refine wpAnyH_ready (rs := [3]) (by kernel_rfl) (by simp) ?_
          refine AllReadyH.cons rfl (fun K hK => ?_) AllReadyH.nil
          go_simp
          go_wp2_with (go_at_call 36; refine (next_d _ b g cap L i _ _ _ B4.out.drew.rd HK.out).mono ?_; rintro e w5 ⟨rfl, s5⟩)
          have t5 : rowAt w5 w1.heap.size = some (hd (L.drop i)).tk.cells := (s5.row (by simp; omega) (by omega)).trans t4d
          have m5 : roomAt w5 w.heap.size 6 = true := (s5.room (by simp; omega) (by omega) 6).trans ((roomAt_drew _ _ _).trans m4)
          have B5 : Hid (Ds w w5 b g cap L (i + 1) (o : Int) 0 0) := B4.out.drew.next s5
          refine hK.out _ _ t5 (fun _ => ?_)
          clear hK K
          refine wpAnyH_take (i := 4) (v := ?_) rfl (by kernel_rfl) (by kernel_rfl) (by kernel_rfl) (fun _ _ _ h => h) (Or.inl ⟨by rfl, ?y4a⟩) t5 ?r4a
          case y4a => (intro w2 hSw; go_simp; try rfl)
          simp only [Act.put, List.setIfInBounds_toArray, List.set_cons_zero, List.set_cons_succ]
          refine wpAnyH_take (i := 5) (v := ?_) rfl (by kernel_rfl) (by kernel_rfl) (by kernel_rfl) (fun _ _ _ h => h) (Or.inl ⟨by rfl, ?y5a⟩) t5 ?r5a
          case y5a => (intro w2 hSw; go_simp; try rfl)
          simp only [Act.put, List.setIfInBounds_toArray, List.set_cons_zero, List.set_cons_succ]
          refine wpAnyH_ready (rs := [6]) (by kernel_rfl) (by simp) ?_
          refine AllReadyH.cons rfl (fun K hK => ?_) AllReadyH.nil
          have t6 : ∀ X, rowAt (putRow w5 w.heap.size X) w1.heap.size = some (hd (L.drop i)).tk.cells := fun X => (row_far _ _ _ _ (by omega)).trans t5
          go_simp
          refine hK.out _ _ (t6 _) (fun _ => ?_)
          clear hK K
          refine wpAnyH_done (by kernel_rfl) ?_ _
          go_wp2_with fail
          exact ret_cell1 rfl rfl (loadNd_row (rowNd_put _ _ _ m5)) rfl (fin_d (c := ⟨24, bs [], (hd (L.drop i)).n, false, none, 0, 0, ((hd (L.drop i)).p : Int)⟩) B5.out bl gl (by omega) rfl (NdAt.mk 24 [] (hd (L.drop i)).n false [] _ none 0 (KidsAt.nil _ _)))
        · have e3 : ((hd (L.drop i)).tk.k == 3) = false := by simpa [Tok.tk] using k3
          by_cases k4 : (hd (L.drop i)).k = 4
          · have e4 : ((hd (L.drop i)).tk.k == 4) = true := by simpa [Tok.tk] using k4
            rw [if_neg (by omega), if_neg k3, if_pos k4]
            have HK : Hid ((hd (L.drop i)).k ≠ 0) := by show (hd (L.drop i)).k ≠ 0; omega
            clear hwk k3 k4 g1 g2 g3 okh
            go_enter Tryd.func99, Tryd.ntmps99
            go_upto_region 22 with (first
              | (go_at_call 76; have hx := B3; clear hx; refine (SA.out _ [123] B3.out.rd).mono ?_; rintro e w4 ⟨rfl, hb4⟩; have hs4 := hb4.size; have B4 : Hid (Ds w w4 b g cap L i (o : Int) 0 0) := B3.out.below hb4; have m4 : roomAt w4 w.heap.size 6 = true := (roomAt_below hb4 _ _ (by omega)).trans m3; have t4 : rowAt w4 w1.heap.size = _ := (rowAt_below hb4 _ (by omega)).trans t3; have ct4 := rowAt_cell t4; have c34 := B4.out.rd.c3; have l4 := B4.out.rd.bl; have hw4 : w.heap.size < w4.heap.size := (by omega))
              | (go_at_call 76; have hx := B2; clear hx; refine (SA.out _ [40] B2.out.rd).mono ?_; rintro e w3 ⟨rfl, hb3⟩; have hs3 := hb3.size; have B3 : Hid (Ds w w3 b g cap L i (o : Int) 0 0) := B2.out.below hb3; have m3 : roomAt w3 w.heap.size 6 = true := (roomAt_below hb3 _ _ (by omega)).trans m2; have t3 : rowAt w3 w1.heap.size = _ := (rowAt_below hb3 _ (by omega)).trans t2)
              | (go_at_call 76; refine (SA.out _ [126] (B1.out.alloc _).rd).mono ?_; rintro e w2 ⟨rfl, hb2⟩; have hs2 := hb2.size; simp at hs2; have B2 : Hid (Ds w w2 b g cap L i (o : Int) 0 0) := (B1.out.alloc _).below hb2; have m2 : roomAt w2 w.heap.size 6 = true := (roomAt_below hb2 _ _ (by simp; omega)).trans ((roomAt_old _ _ _ _ (by omega)).trans m1); have t2 : rowAt w2 w1.heap.size = some (hd (L.drop i)).tk.cells := (rowAt_below hb2 _ (by simp)).trans (rowAt_at _ _ _ _ _ rfl))
              | (go_at_call 39; refine (peek_d _ b g cap L i _ _ _ (H.out.alloc _)).mono ?_; rintro e w1 ⟨rfl, hb1⟩; have hs1 := hb1.size; simp at hs1; have hl1 : w.heap.size < w1.heap.size := (by omega); have B1 : Hid (Ds w w1 b g cap L i (o : Int) 0 0) := ((Ds.refl H.out).alloc _).below hb1; have m1 : roomAt w1 w.heap.size 6 = true := (roomAt_below hb1 _ _ (by simp)).trans (roomNd_new _ _ _ _ (by simp))))
            have t4d : rowAt w4.drew w1.heap.size = some (hd (L.drop i)).tk.cells := (rowAt_drew _ _).trans t4
            refine wp_region_held_drew (S := (fun X => rowAt X w1.heap.size = some (hd (L.drop i)).tk.cells)) (by kernel_rfl) t4d (fun hHeld => ?_)
            refine wpAnyH_take (i := 0) (v := ?_) rfl (by kernel_rfl) (by kernel_rfl) (by kernel_rfl) (fun _ _ _ h => h) (Or.inl ⟨by rfl, ?y0b⟩) hHeld ?r0b
            case y0b => (intro w2 hSw; go_simp; try rfl)
            simp only [Act.put, List.setIfInBounds_toArray, List.set_cons_zero, List.set_cons_succ]
            refine wpAnyH_take (i := 1) (v := ?_) rfl (by kernel_rfl) (by kernel_rfl) (by kernel_rfl) (fun _ _ _ h => h) (Or.inl ⟨by rfl, ?y1b⟩) hHeld ?r1b
            case y1b => (intro w2 hSw; have c3 := rowAt_cell hSw; go_simp; try rfl)
            simp only [Act.put, List.setIfInBounds_toArray, List.set_cons_zero, List.set_cons_succ]
            refine wpAnyH_take (i := 2) (v := ?_) rfl (by kernel_rfl) (by kernel_rfl) (by kernel_rfl) (fun _ _ _ h => h) (Or.inl ⟨by rfl, ?y2b⟩) hHeld ?r2b
            case y2b => (intro w2 hSw; go_simp; try rfl)
            simp only [Act.put, List.setIfInBounds_toArray, List.set_cons_zero, List.set_cons_succ]
            refine wpAnyH_ready (rs := [3]) (by kernel_rfl) (by simp) ?_
            refine AllReadyH.cons rfl (fun K hK => ?_) AllReadyH.nil
            go_simp
            go_wp2_with (go_at_call 36; refine (next_d _ b g cap L i _ _ _ B4.out.drew.rd HK.out).mono ?_; rintro e w5 ⟨rfl, s5⟩)
            have t5 : rowAt w5 w1.heap.size = some (hd (L.drop i)).tk.cells := (s5.row (by simp; omega) (by omega)).trans t4d
            have m5 : roomAt w5 w.heap.size 6 = true := (s5.room (by simp; omega) (by omega) 6).trans ((roomAt_drew _ _ _).trans m4)
            have B5 : Hid (Ds w w5 b g cap L (i + 1) (o : Int) 0 0) := B4.out.drew.next s5
            refine hK.out _ _ t5 (fun _ => ?_)
            clear hK K
            refine wpAnyH_take (i := 4) (v := ?_) rfl (by kernel_rfl) (by kernel_rfl) (by kernel_rfl) (fun _ _ _ h => h) (Or.inl ⟨by rfl, ?y4b⟩) t5 ?r4b
            case y4b => (intro w2 hSw; go_simp; try rfl)
            simp only [Act.put, List.setIfInBounds_toArray, List.set_cons_zero, List.set_cons_succ]
            refine wpAnyH_take (i := 5) (v := ?_) rfl (by kernel_rfl) (by kernel_rfl) (by kernel_rfl) (fun _ _ _ h => h) (Or.inl ⟨by rfl, ?y5b⟩) t5 ?r5b
            case y5b => (intro w2 hSw; go_simp; try rfl)
            simp only [Act.put, List.setIfInBounds_toArray, List.set_cons_zero, List.set_cons_succ]
            refine wpAnyH_ready (rs := [6]) (by kernel_rfl) (by simp) ?_
            refine AllReadyH.cons rfl (fun K hK => ?_) AllReadyH.nil
            have t6 : ∀ X, rowAt (putRow w5 w.heap.size X) w1.heap.size = some (hd (L.drop i)).tk.cells := fun X => (row_far _ _ _ _ (by omega)).trans t5
            go_simp
            refine hK.out _ _ (t6 _) (fun _ => ?_)
            clear hK K
            refine wpAnyH_done (by kernel_rfl) ?_ _
            go_wp2_with fail
            exact ret_cell1 rfl rfl (loadNd_row (rowNd_put _ _ _ m5)) rfl (fin_d (c := ⟨25, bs [], (hd (L.drop i)).n, false, none, 0, 0, ((hd (L.drop i)).p : Int)⟩) B5.out bl gl (by omega) rfl (NdAt.mk 25 [] (hd (L.drop i)).n false [] _ none 0 (KidsAt.nil _ _)))
          · have e4 : ((hd (L.drop i)).tk.k == 4) = false := by simpa [Tok.tk] using k4
            by_cases k5 : (hd (L.drop i)).k = 5
            · have e5 : ((hd (L.drop i)).tk.k == 5) = true := by simpa [Tok.tk] using k5
              rw [if_neg (by omega), if_neg k3, if_neg k4, if_pos k5]
              have HK : Hid ((hd (L.drop i)).k ≠ 0) := by show (hd (L.drop i)).k ≠ 0; omega
              clear hwk k3 k4 k5 g1 g2 g3 okh
              go_enter Tryd.func99, Tryd.ntmps99
              go_upto_region 24 with (first
                | (go_at_call 76; have hx := B3; clear hx; refine (SA.out _ [123] B3.out.rd).mono ?_; rintro e w4 ⟨rfl, hb4⟩; have hs4 := hb4.size; have B4 : Hid (Ds w w4 b g cap L i (o : Int) 0 0) := B3.out.below hb4; have m4 : roomAt w4 w.heap.size 6 = true := (roomAt_below hb4 _ _ (by omega)).trans m3; have t4 : rowAt w4 w1.heap.size = _ := (rowAt_below hb4 _ (by omega)).trans t3; have ct4 := rowAt_cell t4; have c34 := B4.out.rd.c3; have l4 := B4.out.rd.bl; have hw4 : w.heap.size < w4.heap.size := (by omega))
                | (go_at_call 76; have hx := B2; clear hx; refine (SA.out _ [40] B2.out.rd).mono ?_; rintro e w3 ⟨rfl, hb3⟩; have hs3 := hb3.size; have B3 : Hid (Ds w w3 b g cap L i (o : Int) 0 0) := B2.out.below hb3; have m3 : roomAt w3 w.heap.size 6 = true := (roomAt_below hb3 _ _ (by omega)).trans m2; have t3 : rowAt w3 w1.heap.size = _ := (rowAt_below hb3 _ (by omega)).trans t2)
                | (go_at_call 76; refine (SA.out _ [126] (B1.out.alloc _).rd).mono ?_; rintro e w2 ⟨rfl, hb2⟩; have hs2 := hb2.size; simp at hs2; have B2 : Hid (Ds w w2 b g cap L i (o : Int) 0 0) := (B1.out.alloc _).below hb2; have m2 : roomAt w2 w.heap.size 6 = true := (roomAt_below hb2 _ _ (by simp; omega)).trans ((roomAt_old _ _ _ _ (by omega)).trans m1); have t2 : rowAt w2 w1.heap.size = some (hd (L.drop i)).tk.cells := (rowAt_below hb2 _ (by simp)).trans (rowAt_at _ _ _ _ _ rfl))
                | (go_at_call 39; refine (peek_d _ b g cap L i _ _ _ (H.out.alloc _)).mono ?_; rintro e w1 ⟨rfl, hb1⟩; have hs1 := hb1.size; simp at hs1; have hl1 : w.heap.size < w1.heap.size := (by omega); have B1 : Hid (Ds w w1 b g cap L i (o : Int) 0 0) := ((Ds.refl H.out).alloc _).below hb1; have m1 : roomAt w1 w.heap.size 6 = true := (roomAt_below hb1 _ _ (by simp)).trans (roomNd_new _ _ _ _ (by simp))))
              have t4d : rowAt w4.drew w1.heap.size = some (hd (L.drop i)).tk.cells := (rowAt_drew _ _).trans t4
              refine wp_region_held_drew (S := (fun X => rowAt X w1.heap.size = some (hd (L.drop i)).tk.cells)) (by kernel_rfl) t4d (fun hHeld => ?_)
              refine wpAnyH_take (i := 0) (v := ?_) rfl (by kernel_rfl) (by kernel_rfl) (by kernel_rfl) (fun _ _ _ h => h) (Or.inl ⟨by rfl, ?y0c⟩) hHeld ?r0c
              case y0c => (intro w2 hSw; go_simp; try rfl)
              simp only [Act.put, List.setIfInBounds_toArray, List.set_cons_zero, List.set_cons_succ]
              refine wpAnyH_take (i := 1) (v := ?_) rfl (by kernel_rfl) (by kernel_rfl) (by kernel_rfl) (fun _ _ _ h => h) (Or.inl ⟨by rfl, ?y1c⟩) hHeld ?r1c
              case y1c => (intro w2 hSw; have c3 := rowAt_cell hSw; go_simp; try rfl)
              simp only [Act.put, List.setIfInBounds_toArray, List.set_cons_zero, List.set_cons_succ]
              refine wpAnyH_take (i := 2) (v := ?_) rfl (by kernel_rfl) (by kernel_rfl) (by kernel_rfl) (fun _ _ _ h => h) (Or.inl ⟨by rfl, ?y2c⟩) hHeld ?r2c
              case y2c => (intro w2 hSw; go_simp; try rfl)
              simp only [Act.put, List.setIfInBounds_toArray, List.set_cons_zero, List.set_cons_succ]
              refine wpAnyH_ready (rs := [3]) (by kernel_rfl) (by simp) ?_
              refine AllReadyH.cons rfl (fun K hK => ?_) AllReadyH.nil
              go_simp
              go_wp2_with (go_at_call 36; refine (next_d _ b g cap L i _ _ _ B4.out.drew.rd HK.out).mono ?_; rintro e w5 ⟨rfl, s5⟩)
              have t5 : rowAt w5 w1.heap.size = some (hd (L.drop i)).tk.cells := (s5.row (by simp; omega) (by omega)).trans t4d
              have m5 : roomAt w5 w.heap.size 6 = true := (s5.room (by simp; omega) (by omega) 6).trans ((roomAt_drew _ _ _).trans m4)
              have B5 : Hid (Ds w w5 b g cap L (i + 1) (o : Int) 0 0) := B4.out.drew.next s5
              refine hK.out _ _ t5 (fun _ => ?_)
              clear hK K
              refine wpAnyH_take (i := 4) (v := ?_) rfl (by kernel_rfl) (by kernel_rfl) (by kernel_rfl) (fun _ _ _ h => h) (Or.inl ⟨by rfl, ?y4c⟩) t5 ?r4c
              case y4c => (intro w2 hSw; go_simp; try rfl)
              simp only [Act.put, List.setIfInBounds_toArray, List.set_cons_zero, List.set_cons_succ]
              refine wpAnyH_take (i := 5) (v := ?_) rfl (by kernel_rfl) (by kernel_rfl) (by kernel_rfl) (fun _ _ _ h => h) (Or.inl ⟨by rfl, ?y5c⟩) t5 ?r5c
              case y5c => (intro w2 hSw; go_simp; try rfl)
              simp only [Act.put, List.setIfInBounds_toArray, List.set_cons_zero, List.set_cons_succ]
              refine wpAnyH_ready (rs := [6]) (by kernel_rfl) (by simp) ?_
              refine AllReadyH.cons rfl (fun K hK => ?_) AllReadyH.nil
              have t6 : ∀ X, rowAt (putRow w5 w.heap.size X) w1.heap.size = some (hd (L.drop i)).tk.cells := fun X => (row_far _ _ _ _ (by omega)).trans t5
              go_simp
              refine hK.out _ _ (t6 _) (fun _ => ?_)
              clear hK K
              refine wpAnyH_done (by kernel_rfl) ?_ _
              go_wp2_with fail
              exact ret_cell1 rfl rfl (loadNd_row (rowNd_put _ _ _ m5)) rfl (fin_d (c := ⟨26, bs (hd (L.drop i)).t, 0, false, none, 0, 0, ((hd (L.drop i)).p : Int)⟩) B5.out bl gl (by omega) rfl (NdAt.mk 26 (hd (L.drop i)).t 0 false [] _ none 0 (KidsAt.nil _ _)))
            · have e5 : ((hd (L.drop i)).tk.k == 5) = false := by simpa [Tok.tk] using k5
              rw [if_neg k3, if_neg k4, if_neg k5]
              by_cases x0 : wd (L.drop i) = [78, 73, 76]
              · obtain ⟨k2, tt⟩ := key_of okh (by decide) x0
                have e2 : ((hd (L.drop i)).tk.k == 2) = true := by simpa [Tok.tk] using k2
                have y0 : ((hd (L.drop i)).tk.t.toList == [78, 73, 76]) = true := by rw [← tkt, tt]; rfl
                rw [if_neg (by omega), if_pos x0]
                have HK : Hid ((hd (L.drop i)).k ≠ 0) := by show (hd (L.drop i)).k ≠ 0; omega
                clear hwk k2 tt g1 g2 g3 okh x0 k3 k4 k5
                go_enter Tryd.func99, Tryd.ntmps99
                go_wp2_with (first
                  | (go_at_call 36; refine (next_d _ b g cap L i _ _ _ B4.out.rd HK.out).mono ?_; rintro e w5 ⟨rfl, s5⟩; have m5 : roomAt w5 w.heap.size 6 = true := (s5.room (by omega) (by omega) 6).trans m4; have B5 : Hid (Ds w w5 b g cap L (i + 1) (o : Int) 0 0) := B4.out.next s5)
                  | (go_at_call 76; have hx := B3; clear hx; refine (SA.out _ [123] B3.out.rd).mono ?_; rintro e w4 ⟨rfl, hb4⟩; have hs4 := hb4.size; have B4 : Hid (Ds w w4 b g cap L i (o : Int) 0 0) := B3.out.below hb4; have m4 : roomAt w4 w.heap.size 6 = true := (roomAt_below hb4 _ _ (by omega)).trans m3; have t4 : rowAt w4 w1.heap.size = _ := (rowAt_below hb4 _ (by omega)).trans t3; have ct4 := rowAt_cell t4; have c34 := B4.out.rd.c3; have l4 := B4.out.rd.bl; have hw4 : w.heap.size < w4.heap.size := (by omega))
                  | (go_at_call 76; have hx := B2; clear hx; refine (SA.out _ [40] B2.out.rd).mono ?_; rintro e w3 ⟨rfl, hb3⟩; have hs3 := hb3.size; have B3 : Hid (Ds w w3 b g cap L i (o : Int) 0 0) := B2.out.below hb3; have m3 : roomAt w3 w.heap.size 6 = true := (roomAt_below hb3 _ _ (by omega)).trans m2; have t3 : rowAt w3 w1.heap.size = _ := (rowAt_below hb3 _ (by omega)).trans t2)
                  | (go_at_call 76; refine (SA.out _ [126] (B1.out.alloc _).rd).mono ?_; rintro e w2 ⟨rfl, hb2⟩; have hs2 := hb2.size; simp at hs2; have B2 : Hid (Ds w w2 b g cap L i (o : Int) 0 0) := (B1.out.alloc _).below hb2; have m2 : roomAt w2 w.heap.size 6 = true := (roomAt_below hb2 _ _ (by simp; omega)).trans ((roomAt_old _ _ _ _ (by omega)).trans m1); have t2 : rowAt w2 w1.heap.size = some (hd (L.drop i)).tk.cells := (rowAt_below hb2 _ (by simp)).trans (rowAt_at _ _ _ _ _ rfl))
                  | (go_at_call 39; refine (peek_d _ b g cap L i _ _ _ (H.out.alloc _)).mono ?_; rintro e w1 ⟨rfl, hb1⟩; have hs1 := hb1.size; simp at hs1; have hl1 : w.heap.size < w1.heap.size := (by omega); have B1 : Hid (Ds w w1 b g cap L i (o : Int) 0 0) := ((Ds.refl H.out).alloc _).below hb1; have m1 : roomAt w1 w.heap.size 6 = true := (roomAt_below hb1 _ _ (by simp)).trans (roomNd_new _ _ _ _ (by simp))))
                exact ret_cell1 rfl rfl (loadNd_row (rowNd_put _ _ _ m5)) rfl (fin_d (c := ⟨27, bs [], 0, false, none, 0, 0, ((hd (L.drop i)).p : Int)⟩) B5.out bl gl (by omega) rfl (NdAt.mk 27 [] 0 false [] _ none 0 (KidsAt.nil _ _)))
              · skip
                by_cases x1 : wd (L.drop i) = [84, 82, 85, 69]
                · obtain ⟨k2, tt⟩ := key_of okh (by decide) x1
                  have e2 : ((hd (L.drop i)).tk.k == 2) = true := by simpa [Tok.tk] using k2
                  have y1 : ((hd (L.drop i)).tk.t.toList == [84, 82, 85, 69]) = true := by rw [← tkt, tt]; rfl
                  have y0 := not_key k2 x0
                  rw [if_neg (by omega), if_neg x0, if_pos x1]
                  have HK : Hid ((hd (L.drop i)).k ≠ 0) := by show (hd (L.drop i)).k ≠ 0; omega
                  clear hwk k2 tt g1 g2 g3 okh x0 x1 k3 k4 k5
                  go_enter Tryd.func99, Tryd.ntmps99
                  go_wp2_with (first
                    | (go_at_call 36; refine (next_d _ b g cap L i _ _ _ B4.out.rd HK.out).mono ?_; rintro e w5 ⟨rfl, s5⟩; have m5 : roomAt w5 w.heap.size 6 = true := (s5.room (by omega) (by omega) 6).trans m4; have B5 : Hid (Ds w w5 b g cap L (i + 1) (o : Int) 0 0) := B4.out.next s5)
                    | (go_at_call 76; have hx := B3; clear hx; refine (SA.out _ [123] B3.out.rd).mono ?_; rintro e w4 ⟨rfl, hb4⟩; have hs4 := hb4.size; have B4 : Hid (Ds w w4 b g cap L i (o : Int) 0 0) := B3.out.below hb4; have m4 : roomAt w4 w.heap.size 6 = true := (roomAt_below hb4 _ _ (by omega)).trans m3; have t4 : rowAt w4 w1.heap.size = _ := (rowAt_below hb4 _ (by omega)).trans t3; have ct4 := rowAt_cell t4; have c34 := B4.out.rd.c3; have l4 := B4.out.rd.bl; have hw4 : w.heap.size < w4.heap.size := (by omega))
                    | (go_at_call 76; have hx := B2; clear hx; refine (SA.out _ [40] B2.out.rd).mono ?_; rintro e w3 ⟨rfl, hb3⟩; have hs3 := hb3.size; have B3 : Hid (Ds w w3 b g cap L i (o : Int) 0 0) := B2.out.below hb3; have m3 : roomAt w3 w.heap.size 6 = true := (roomAt_below hb3 _ _ (by omega)).trans m2; have t3 : rowAt w3 w1.heap.size = _ := (rowAt_below hb3 _ (by omega)).trans t2)
                    | (go_at_call 76; refine (SA.out _ [126] (B1.out.alloc _).rd).mono ?_; rintro e w2 ⟨rfl, hb2⟩; have hs2 := hb2.size; simp at hs2; have B2 : Hid (Ds w w2 b g cap L i (o : Int) 0 0) := (B1.out.alloc _).below hb2; have m2 : roomAt w2 w.heap.size 6 = true := (roomAt_below hb2 _ _ (by simp; omega)).trans ((roomAt_old _ _ _ _ (by omega)).trans m1); have t2 : rowAt w2 w1.heap.size = some (hd (L.drop i)).tk.cells := (rowAt_below hb2 _ (by simp)).trans (rowAt_at _ _ _ _ _ rfl))
                    | (go_at_call 39; refine (peek_d _ b g cap L i _ _ _ (H.out.alloc _)).mono ?_; rintro e w1 ⟨rfl, hb1⟩; have hs1 := hb1.size; simp at hs1; have hl1 : w.heap.size < w1.heap.size := (by omega); have B1 : Hid (Ds w w1 b g cap L i (o : Int) 0 0) := ((Ds.refl H.out).alloc _).below hb1; have m1 : roomAt w1 w.heap.size 6 = true := (roomAt_below hb1 _ _ (by simp)).trans (roomNd_new _ _ _ _ (by simp))))
                  exact ret_cell1 rfl rfl (loadNd_row (rowNd_put _ _ _ m5)) rfl (fin_d (c := ⟨28, bs [], 1, false, none, 0, 0, ((hd (L.drop i)).p : Int)⟩) B5.out bl gl (by omega) rfl (NdAt.mk 28 [] 1 false [] _ none 0 (KidsAt.nil _ _)))
                · skip
                  by_cases x2 : wd (L.drop i) = [70, 65, 76, 83, 69]
                  · obtain ⟨k2, tt⟩ := key_of okh (by decide) x2
                    have e2 : ((hd (L.drop i)).tk.k == 2) = true := by simpa [Tok.tk] using k2
                    have y2 : ((hd (L.drop i)).tk.t.toList == [70, 65, 76, 83, 69]) = true := by rw [← tkt, tt]; rfl
                    have y0 := not_key k2 x0
                    have y1 := not_key k2 x1
                    rw [if_neg (by omega), if_neg x0, if_neg x1, if_pos x2]
                    have HK : Hid ((hd (L.drop i)).k ≠ 0) := by show (hd (L.drop i)).k ≠ 0; omega
                    clear hwk k2 tt g1 g2 g3 okh x0 x1 x2 k3 k4 k5
                    go_enter Tryd.func99, Tryd.ntmps99
                    go_wp2_with (first
                      | (go_at_call 36; refine (next_d _ b g cap L i _ _ _ B4.out.rd HK.out).mono ?_; rintro e w5 ⟨rfl, s5⟩; have m5 : roomAt w5 w.heap.size 6 = true := (s5.room (by omega) (by omega) 6).trans m4; have B5 : Hid (Ds w w5 b g cap L (i + 1) (o : Int) 0 0) := B4.out.next s5)
                      | (go_at_call 76; have hx := B3; clear hx; refine (SA.out _ [123] B3.out.rd).mono ?_; rintro e w4 ⟨rfl, hb4⟩; have hs4 := hb4.size; have B4 : Hid (Ds w w4 b g cap L i (o : Int) 0 0) := B3.out.below hb4; have m4 : roomAt w4 w.heap.size 6 = true := (roomAt_below hb4 _ _ (by omega)).trans m3; have t4 : rowAt w4 w1.heap.size = _ := (rowAt_below hb4 _ (by omega)).trans t3; have ct4 := rowAt_cell t4; have c34 := B4.out.rd.c3; have l4 := B4.out.rd.bl; have hw4 : w.heap.size < w4.heap.size := (by omega))
                      | (go_at_call 76; have hx := B2; clear hx; refine (SA.out _ [40] B2.out.rd).mono ?_; rintro e w3 ⟨rfl, hb3⟩; have hs3 := hb3.size; have B3 : Hid (Ds w w3 b g cap L i (o : Int) 0 0) := B2.out.below hb3; have m3 : roomAt w3 w.heap.size 6 = true := (roomAt_below hb3 _ _ (by omega)).trans m2; have t3 : rowAt w3 w1.heap.size = _ := (rowAt_below hb3 _ (by omega)).trans t2)
                      | (go_at_call 76; refine (SA.out _ [126] (B1.out.alloc _).rd).mono ?_; rintro e w2 ⟨rfl, hb2⟩; have hs2 := hb2.size; simp at hs2; have B2 : Hid (Ds w w2 b g cap L i (o : Int) 0 0) := (B1.out.alloc _).below hb2; have m2 : roomAt w2 w.heap.size 6 = true := (roomAt_below hb2 _ _ (by simp; omega)).trans ((roomAt_old _ _ _ _ (by omega)).trans m1); have t2 : rowAt w2 w1.heap.size = some (hd (L.drop i)).tk.cells := (rowAt_below hb2 _ (by simp)).trans (rowAt_at _ _ _ _ _ rfl))
                      | (go_at_call 39; refine (peek_d _ b g cap L i _ _ _ (H.out.alloc _)).mono ?_; rintro e w1 ⟨rfl, hb1⟩; have hs1 := hb1.size; simp at hs1; have hl1 : w.heap.size < w1.heap.size := (by omega); have B1 : Hid (Ds w w1 b g cap L i (o : Int) 0 0) := ((Ds.refl H.out).alloc _).below hb1; have m1 : roomAt w1 w.heap.size 6 = true := (roomAt_below hb1 _ _ (by simp)).trans (roomNd_new _ _ _ _ (by simp))))
                    exact ret_cell1 rfl rfl (loadNd_row (rowNd_put _ _ _ m5)) rfl (fin_d (c := ⟨28, bs [], 0, false, none, 0, 0, ((hd (L.drop i)).p : Int)⟩) B5.out bl gl (by omega) rfl (NdAt.mk 28 [] 0 false [] _ none 0 (KidsAt.nil _ _)))
                  · skip
                    rw [if_neg x0, if_neg x1, if_neg x2]
                    have RD : (if (hd (L.drop i)).k = 1 then run (f + 1) .desig o (L.drop i) else .bad (hd (L.drop i)).p 90) = run (f + 1) .desig o (L.drop i) := by
                      by_cases k1 : (hd (L.drop i)).k = 1
                      · rw [if_pos k1]
                      · rw [if_neg k1, run_desig_no f o _ k1]
                    rw [RD]
                    by_cases k2 : (hd (L.drop i)).k = 2
                    · have e2 : ((hd (L.drop i)).tk.k == 2) = true := by simpa [Tok.tk] using k2
                      have y0 := not_key k2 x0
                      have y1 := not_key k2 x1
                      have y2 := not_key k2 x2
                      clear hwk RD g1 g2 g3 x0 x1 x2 k2 k3 k4 k5
                      have GC : Hid (∀ X, DAt X b g cap L i (o : Int) 0 0 → Calls Tryd.prog 120 #[.pointer (some ⟨b, 0, none⟩)] X (PostD X b g cap L i o (run (f + 1) .desig o (L.drop i)))) := fun X hX => HD.out X b g cap L i o hX ho HOK.out (by show (L.length - i) * 40 + 10 ≤ f + 1; omega)
                      generalize (run (f + 1) .desig o (L.drop i)) = R at GC ⊢
                      clear okh
                      cases R with
                      | bad p er =>
                        go_enter Tryd.func99, Tryd.ntmps99
                        go_wp2_with (first
                          | (go_at_call 120; refine (GC.out _ B4.out.rd).mono ?_; rintro e w5 ⟨c5, i5, o5, rfl, he5, s5⟩; have m5 : roomAt w5 w.heap.size 6 = true := (s5.room (by omega) (by omega) 6).trans m4)
                          | (go_at_call 76; have hx := B3; clear hx; refine (SA.out _ [123] B3.out.rd).mono ?_; rintro e w4 ⟨rfl, hb4⟩; have hs4 := hb4.size; have B4 : Hid (Ds w w4 b g cap L i (o : Int) 0 0) := B3.out.below hb4; have m4 : roomAt w4 w.heap.size 6 = true := (roomAt_below hb4 _ _ (by omega)).trans m3; have t4 : rowAt w4 w1.heap.size = _ := (rowAt_below hb4 _ (by omega)).trans t3; have ct4 := rowAt_cell t4; have c34 := B4.out.rd.c3; have l4 := B4.out.rd.bl; have hw4 : w.heap.size < w4.heap.size := (by omega))
                          | (go_at_call 76; have hx := B2; clear hx; refine (SA.out _ [40] B2.out.rd).mono ?_; rintro e w3 ⟨rfl, hb3⟩; have hs3 := hb3.size; have B3 : Hid (Ds w w3 b g cap L i (o : Int) 0 0) := B2.out.below hb3; have m3 : roomAt w3 w.heap.size 6 = true := (roomAt_below hb3 _ _ (by omega)).trans m2; have t3 : rowAt w3 w1.heap.size = _ := (rowAt_below hb3 _ (by omega)).trans t2)
                          | (go_at_call 76; refine (SA.out _ [126] (B1.out.alloc _).rd).mono ?_; rintro e w2 ⟨rfl, hb2⟩; have hs2 := hb2.size; simp at hs2; have B2 : Hid (Ds w w2 b g cap L i (o : Int) 0 0) := (B1.out.alloc _).below hb2; have m2 : roomAt w2 w.heap.size 6 = true := (roomAt_below hb2 _ _ (by simp; omega)).trans ((roomAt_old _ _ _ _ (by omega)).trans m1); have t2 : rowAt w2 w1.heap.size = some (hd (L.drop i)).tk.cells := (rowAt_below hb2 _ (by simp)).trans (rowAt_at _ _ _ _ _ rfl))
                          | (go_at_call 39; refine (peek_d _ b g cap L i _ _ _ (H.out.alloc _)).mono ?_; rintro e w1 ⟨rfl, hb1⟩; have hs1 := hb1.size; simp at hs1; have hl1 : w.heap.size < w1.heap.size := (by omega); have B1 : Hid (Ds w w1 b g cap L i (o : Int) 0 0) := ((Ds.refl H.out).alloc _).below hb1; have m1 : roomAt w1 w.heap.size 6 = true := (roomAt_below hb1 _ _ (by simp)).trans (roomNd_new _ _ _ _ (by simp))))
                        exact ret_cell1 rfl rfl (loadNd_row (rowNd_put _ _ _ m5)) rfl (bad_d (B4.out.next s5) bl gl he5)
                      | ok n t =>
                        go_enter Tryd.func99, Tryd.ntmps99
                        go_wp2_with (first
                          | (go_at_call 120; refine (GC.out _ B4.out.rd).mono ?_; rintro e w5 ⟨c5, i5, rfl, ht5, hi5, s5, nd5⟩; have m5 : roomAt w5 w.heap.size 6 = true := (s5.room (by omega) (by omega) 6).trans m4)
                          | (go_at_call 76; have hx := B3; clear hx; refine (SA.out _ [123] B3.out.rd).mono ?_; rintro e w4 ⟨rfl, hb4⟩; have hs4 := hb4.size; have B4 : Hid (Ds w w4 b g cap L i (o : Int) 0 0) := B3.out.below hb4; have m4 : roomAt w4 w.heap.size 6 = true := (roomAt_below hb4 _ _ (by omega)).trans m3; have t4 : rowAt w4 w1.heap.size = _ := (rowAt_below hb4 _ (by omega)).trans t3; have ct4 := rowAt_cell t4; have c34 := B4.out.rd.c3; have l4 := B4.out.rd.bl; have hw4 : w.heap.size < w4.heap.size := (by omega))
                          | (go_at_call 76; have hx := B2; clear hx; refine (SA.out _ [40] B2.out.rd).mono ?_; rintro e w3 ⟨rfl, hb3⟩; have hs3 := hb3.size; have B3 : Hid (Ds w w3 b g cap L i (o : Int) 0 0) := B2.out.below hb3; have m3 : roomAt w3 w.heap.size 6 = true := (roomAt_below hb3 _ _ (by omega)).trans m2; have t3 : rowAt w3 w1.heap.size = _ := (rowAt_below hb3 _ (by omega)).trans t2)
                          | (go_at_call 76; refine (SA.out _ [126] (B1.out.alloc _).rd).mono ?_; rintro e w2 ⟨rfl, hb2⟩; have hs2 := hb2.size; simp at hs2; have B2 : Hid (Ds w w2 b g cap L i (o : Int) 0 0) := (B1.out.alloc _).below hb2; have m2 : roomAt w2 w.heap.size 6 = true := (roomAt_below hb2 _ _ (by simp; omega)).trans ((roomAt_old _ _ _ _ (by omega)).trans m1); have t2 : rowAt w2 w1.heap.size = some (hd (L.drop i)).tk.cells := (rowAt_below hb2 _ (by simp)).trans (rowAt_at _ _ _ _ _ rfl))
                          | (go_at_call 39; refine (peek_d _ b g cap L i _ _ _ (H.out.alloc _)).mono ?_; rintro e w1 ⟨rfl, hb1⟩; have hs1 := hb1.size; simp at hs1; have hl1 : w.heap.size < w1.heap.size := (by omega); have B1 : Hid (Ds w w1 b g cap L i (o : Int) 0 0) := ((Ds.refl H.out).alloc _).below hb1; have m1 : roomAt w1 w.heap.size 6 = true := (roomAt_below hb1 _ _ (by simp)).trans (roomNd_new _ _ _ _ (by simp))))
                        exact ret_cell1 rfl rfl (loadNd_row (rowNd_put _ _ _ m5)) rfl (fin_d (B4.out.next s5) bl gl hi5 ht5 (nd5.keep (fun x hx _ => by omega) (Nat.le_refl _) (fun _ _ _ => rfl)))
                    · have e2 : ((hd (L.drop i)).tk.k == 2) = false := by simpa [Tok.tk] using k2
                      clear hwk RD g1 g2 g3 x0 x1 x2 k2 k3 k4 k5
                      have GC : Hid (∀ X, DAt X b g cap L i (o : Int) 0 0 → Calls Tryd.prog 120 #[.pointer (some ⟨b, 0, none⟩)] X (PostD X b g cap L i o (run (f + 1) .desig o (L.drop i)))) := fun X hX => HD.out X b g cap L i o hX ho HOK.out (by show (L.length - i) * 40 + 10 ≤ f + 1; omega)
                      generalize (run (f + 1) .desig o (L.drop i)) = R at GC ⊢
                      clear okh
                      cases R with
                      | bad p er =>
                        go_enter Tryd.func99, Tryd.ntmps99
                        go_wp2_with (first
                          | (go_at_call 120; refine (GC.out _ B4.out.rd).mono ?_; rintro e w5 ⟨c5, i5, o5, rfl, he5, s5⟩; have m5 : roomAt w5 w.heap.size 6 = true := (s5.room (by omega) (by omega) 6).trans m4)
                          | (go_at_call 76; have hx := B3; clear hx; refine (SA.out _ [123] B3.out.rd).mono ?_; rintro e w4 ⟨rfl, hb4⟩; have hs4 := hb4.size; have B4 : Hid (Ds w w4 b g cap L i (o : Int) 0 0) := B3.out.below hb4; have m4 : roomAt w4 w.heap.size 6 = true := (roomAt_below hb4 _ _ (by omega)).trans m3; have t4 : rowAt w4 w1.heap.size = _ := (rowAt_below hb4 _ (by omega)).trans t3; have ct4 := rowAt_cell t4; have c34 := B4.out.rd.c3; have l4 := B4.out.rd.bl; have hw4 : w.heap.size < w4.heap.size := (by omega))
                          | (go_at_call 76; have hx := B2; clear hx; refine (SA.out _ [40] B2.out.rd).mono ?_; rintro e w3 ⟨rfl, hb3⟩; have hs3 := hb3.size; have B3 : Hid (Ds w w3 b g cap L i (o : Int) 0 0) := B2.out.below hb3; have m3 : roomAt w3 w.heap.size 6 = true := (roomAt_below hb3 _ _ (by omega)).trans m2; have t3 : rowAt w3 w1.heap.size = _ := (rowAt_below hb3 _ (by omega)).trans t2)
                          | (go_at_call 76; refine (SA.out _ [126] (B1.out.alloc _).rd).mono ?_; rintro e w2 ⟨rfl, hb2⟩; have hs2 := hb2.size; simp at hs2; have B2 : Hid (Ds w w2 b g cap L i (o : Int) 0 0) := (B1.out.alloc _).below hb2; have m2 : roomAt w2 w.heap.size 6 = true := (roomAt_below hb2 _ _ (by simp; omega)).trans ((roomAt_old _ _ _ _ (by omega)).trans m1); have t2 : rowAt w2 w1.heap.size = some (hd (L.drop i)).tk.cells := (rowAt_below hb2 _ (by simp)).trans (rowAt_at _ _ _ _ _ rfl))
                          | (go_at_call 39; refine (peek_d _ b g cap L i _ _ _ (H.out.alloc _)).mono ?_; rintro e w1 ⟨rfl, hb1⟩; have hs1 := hb1.size; simp at hs1; have hl1 : w.heap.size < w1.heap.size := (by omega); have B1 : Hid (Ds w w1 b g cap L i (o : Int) 0 0) := ((Ds.refl H.out).alloc _).below hb1; have m1 : roomAt w1 w.heap.size 6 = true := (roomAt_below hb1 _ _ (by simp)).trans (roomNd_new _ _ _ _ (by simp))))
                        exact ret_cell1 rfl rfl (loadNd_row (rowNd_put _ _ _ m5)) rfl (bad_d (B4.out.next s5) bl gl he5)
                      | ok n t =>
                        go_enter Tryd.func99, Tryd.ntmps99
                        go_wp2_with (first
                          | (go_at_call 120; refine (GC.out _ B4.out.rd).mono ?_; rintro e w5 ⟨c5, i5, rfl, ht5, hi5, s5, nd5⟩; have m5 : roomAt w5 w.heap.size 6 = true := (s5.room (by omega) (by omega) 6).trans m4)
                          | (go_at_call 76; have hx := B3; clear hx; refine (SA.out _ [123] B3.out.rd).mono ?_; rintro e w4 ⟨rfl, hb4⟩; have hs4 := hb4.size; have B4 : Hid (Ds w w4 b g cap L i (o : Int) 0 0) := B3.out.below hb4; have m4 : roomAt w4 w.heap.size 6 = true := (roomAt_below hb4 _ _ (by omega)).trans m3; have t4 : rowAt w4 w1.heap.size = _ := (rowAt_below hb4 _ (by omega)).trans t3; have ct4 := rowAt_cell t4; have c34 := B4.out.rd.c3; have l4 := B4.out.rd.bl; have hw4 : w.heap.size < w4.heap.size := (by omega))
                          | (go_at_call 76; have hx := B2; clear hx; refine (SA.out _ [40] B2.out.rd).mono ?_; rintro e w3 ⟨rfl, hb3⟩; have hs3 := hb3.size; have B3 : Hid (Ds w w3 b g cap L i (o : Int) 0 0) := B2.out.below hb3; have m3 : roomAt w3 w.heap.size 6 = true := (roomAt_below hb3 _ _ (by omega)).trans m2; have t3 : rowAt w3 w1.heap.size = _ := (rowAt_below hb3 _ (by omega)).trans t2)
                          | (go_at_call 76; refine (SA.out _ [126] (B1.out.alloc _).rd).mono ?_; rintro e w2 ⟨rfl, hb2⟩; have hs2 := hb2.size; simp at hs2; have B2 : Hid (Ds w w2 b g cap L i (o : Int) 0 0) := (B1.out.alloc _).below hb2; have m2 : roomAt w2 w.heap.size 6 = true := (roomAt_below hb2 _ _ (by simp; omega)).trans ((roomAt_old _ _ _ _ (by omega)).trans m1); have t2 : rowAt w2 w1.heap.size = some (hd (L.drop i)).tk.cells := (rowAt_below hb2 _ (by simp)).trans (rowAt_at _ _ _ _ _ rfl))
                          | (go_at_call 39; refine (peek_d _ b g cap L i _ _ _ (H.out.alloc _)).mono ?_; rintro e w1 ⟨rfl, hb1⟩; have hs1 := hb1.size; simp at hs1; have hl1 : w.heap.size < w1.heap.size := (by omega); have B1 : Hid (Ds w w1 b g cap L i (o : Int) 0 0) := ((Ds.refl H.out).alloc _).below hb1; have m1 : roomAt w1 w.heap.size 6 = true := (roomAt_below hb1 _ _ (by simp)).trans (roomNd_new _ _ _ _ (by simp))))
                        exact ret_cell1 rfl rfl (loadNd_row (rowNd_put _ _ _ m5)) rfl (fin_d (B4.out.next s5) bl gl hi5 ht5 (nd5.keep (fun x hx _ => by omega) (Nat.le_refl _) (fun _ _ _ => rfl)))
/-- All of the document's expressions. -/
theorem dexprs_all : ∀ n f, f ≤ n → Pd 19 .expr f ∧ Pd 34 .simple f ∧ Pd 78 .term f ∧ Pd 99 .factor f ∧ Pd 120 .desig f := by
  have zero : ∀ F nt, 1 ≤ lv nt → Pd F nt 0 := fun F nt h w b g cap L i o hR _ _ hf => by omega
  intro n
  induction n with
  | zero =>
    intro f hf
    obtain rfl : f = 0 := by omega
    exact ⟨zero _ _ (by decide), zero _ _ (by decide), zero _ _ (by decide), zero _ _ (by decide), zero _ _ (by decide)⟩
  | succ n ih =>
    intro f hf
    by_cases h : f ≤ n
    · exact ih f h
    · obtain rfl : f = n + 1 := by omega
      obtain ⟨e1, e2, e3, e4, e5⟩ := ih n (Nat.le_refl _)
      refine ⟨dexpr_step n e2, ?_, dterm_step n (fun f' h' => (ih f' h').2.2.2.1), ?_, ddesig_step n (fun f' h' => (ih f' h').1)⟩
      · cases n with
        | zero => exact fun w b g cap L i o hR _ _ hf => absurd hf (by show ¬ (_ + 18 ≤ 1); omega)
        | succ m => exact dsimple_step m (fun f' h' => (ih f' h').2.2.1)
      · cases n with
        | zero => exact fun w b g cap L i o hR _ _ hf => absurd hf (by show ¬ (_ + 12 ≤ 1); omega)
        | succ m => exact dfactor_step m e4 e5 (fun f' h' => (ih f' h').1)
end Go.Proofs.YtejcjhoojpoamaaDoor
