/-
  Layer 9: factors; all of the program's expressions.
-/
import Derived.Test.YtllhcjmabhempaaDoorDsg
import Derived.Test.YtllhcjmabhempaaDoorSmp
import Derived.Test.YtllhcjmabhempaaDoorElm
namespace Go.Proofs.YtllhcjmabhempaaDoor
set_option linter.unusedVariables false
set_option linter.unusedSimpArgs false
open Go.ChangeShapes Go.WideShapes Go.ChangeAt Go.RowKit


attribute [local go_sem] fieldTk0 fieldTk3 fieldTk1 hmf

def unaR (f o : Nat) (t : List Tok) : Rs Nd := (beginR o t).bind fun x r => (run f .factor (o + 1) r).bind fun y s => .ok (unN x y) s
theorem una_factor (f : Nat) (hT : Pc 74 .factor f) (X : World) (b g cap : Nat) (L : List Tok) (i o : Nat) (hX : RdAt X b g cap L i o) (hk0 : (hd (L.drop i)).k ≠ 0) (hf : (L.length - i) * 40 ≤ f + 28) : Calls Tryd.prog 73 #[.pointer (some ⟨b, 0, none⟩), .func (.func 74) #[.pointer (some ⟨b, 0, none⟩)] #[]] X (PostN X b g cap L i o (unaR f o (L.drop i))) := by
  have hil := hX.il
  have hol := hX.ol
  have T2 : ∀ X, RdAt X b g cap L (i + 1) (o + 1) → Calls Tryd.prog 74 #[.pointer (some ⟨b, 0, none⟩)] X (PostN X b g cap L (i + 1) (o + 1) (run f .factor (o + 1) (L.drop (i + 1)))) := fun X hX => hT X b g cap L (i + 1) (o + 1) hX (by show (L.length - (i + 1)) * 40 + 12 ≤ f; omega)
  unfold unaR beginR
  by_cases ho : o = 24
  · subst ho
    rw [if_pos rfl, Rs.bind_bad]
    exact unary_deep_factor X b g cap L i hX
  · rw [if_neg ho, Rs.bind_ok, List.tail_drop]
    cases hr : run f .factor (o + 1) (L.drop (i + 1)) with
    | bad p e => rw [Rs.bind_bad]; exact unary_bad_factor X b g cap L i o hX (by omega) hk0 p e (fun Y hY => by have := T2 Y hY; rwa [hr] at this)
    | ok y s => rw [Rs.bind_ok]; exact unary_ok_factor X b g cap L i o hX (by omega) hk0 y s (fun Y hY => by have := T2 Y hY; rwa [hr] at this)
set_option maxHeartbeats 4000000 in
set_option maxRecDepth 20000 in
theorem factor_step (f : Nat) (hF : Pc 74 .factor (f + 1)) (hD : Pc 81 .desig (f + 1)) (hE : Pc 16 .expr (f + 1)) (hM : ∀ f', f' ≤ f → Pc 88 .elem f') : Pc 74 .factor (f + 1 + 1) := by
  intro w b g cap L i o h hf
  have bl := h.bl
  have gl := h.gl
  have hil := h.il
  have hol := h.ol
  have H : Hid (RdAt w b g cap L i o) := h
  have hf0 : (L.length - i) * 40 + 12 ≤ f + 1 + 1 := hf
  have WA : Hid (∀ X, RdAt X b g cap L i o → Calls Tryd.prog 39 #[.pointer (some ⟨b, 0, none⟩)] X _) := fun X hX => word_any X b g cap L i o hX
  have HE : Hid (∀ X, RdAt X b g cap L i o → Calls Tryd.prog 28 #[.pointer (some ⟨b, 0, none⟩)] X _) := fun X hX => here_any X b g cap L i o hX
  have FA : Hid (∀ X, RdAt X b g cap L i o → Calls Tryd.prog 29 #[.pointer (some ⟨b, 0, none⟩), .int .i64 90] X _) := fun X hX => fault_any X b g cap L i o hX 90
  have k := rk (wd (L.drop i))
  have hwk : wd (L.drop i) ≠ [] → (hd (L.drop i)).k ≠ 0 := wd_kind
  have HF : Hid (Pc 74 .factor (f + 1)) := hF
  have HD : Hid (Pc 81 .desig (f + 1)) := hD
  have HX : Hid (Pc 16 .expr (f + 1)) := hE
  have HM : Hid (∀ f', f' ≤ f → Pc 88 .elem f') := hM
  clear hF hD hE hM h hf
  have ER : run (f + 1 + 1) .factor o (L.drop i) = if (hd (L.drop i)).k = 1 then run (f + 1) .desig o (L.drop i)
    else if (hd (L.drop i)).k = 3 then .ok (.mk 24 [] (hd (L.drop i)).n false [] (hd (L.drop i)).p) (L.drop (i + 1))
    else if (hd (L.drop i)).k = 4 then .ok (.mk 25 [] (hd (L.drop i)).n false [] (hd (L.drop i)).p) (L.drop (i + 1))
    else if (hd (L.drop i)).k = 5 then .ok (.mk 26 (hd (L.drop i)).t 0 false [] (hd (L.drop i)).p) (L.drop (i + 1))
    else if wd (L.drop i) = [78, 73, 76] then .ok (.mk 27 [] 0 false [] (hd (L.drop i)).p) (L.drop (i + 1))
    else if wd (L.drop i) = [84, 82, 85, 69] then .ok (.mk 28 [] 1 false [] (hd (L.drop i)).p) (L.drop (i + 1))
    else if wd (L.drop i) = [70, 65, 76, 83, 69] then .ok (.mk 28 [] 0 false [] (hd (L.drop i)).p) (L.drop (i + 1))
    else if wd (L.drop i) = [126] then unaR (f + 1) o (L.drop i)
    else if wd (L.drop i) = [123] then setR (f + 1) o (L.drop i)
    else if wd (L.drop i) = [40] then grpR (f + 1) o (L.drop i)
    else .bad (hd (L.drop i)).p 90 := by
    rw [run, List.tail_drop]; rfl
  rw [ER]
  clear ER
  by_cases h1 : (hd (L.drop i)).k = 1
  · have e1 : ((hd (L.drop i)).tk.k == 1) = true := by simpa [Tok.tk] using h1
    rw [if_pos h1]
    have GC : Hid (∀ X, RdAt X b g cap L i o → Calls Tryd.prog 81 #[.pointer (some ⟨b, 0, none⟩)] X (PostN X b g cap L i o (run (f + 1) .desig o (L.drop i)))) := fun X hX => HD.out X b g cap L i o hX (by show (L.length - i) * 40 + 10 ≤ f + 1; omega)
    clear HF HX HM HD k hwk h1
    generalize hd (L.drop i) = x at *
    generalize run (f + 1) .desig o (L.drop i) = R at GC ⊢
    cases R with
    | bad p er =>
      go_enter Tryd.func74, Tryd.ntmps74
      go_wp2_with (first
        | (go_at_call 81; refine (GC.out _ (B1.out.alloc _).rd).mono ?_; rintro e w5 ⟨he, g5⟩; unfold gaveUp at he; subst he)
        | (go_at_call 28; refine (HE.out _ (H.out.alloc _)).mono ?_; rintro e w1 ⟨rfl, hb1⟩; have hs1 := hb1.size; simp at hs1; have hl1 : w.heap.size < w1.heap.size := (by omega); have B1 : Hid (St w w1 b g cap L i o) := ((St.refl H.out).alloc _).below hb1; have m1 : roomAt w1 w.heap.size 6 = true := (roomAt_below hb1 _ _ (by simp)).trans (roomNd_new _ _ _ _ (by simp)))
        | (go_at_call 39; refine (WA.out _ (B1.out.alloc _).rd).mono ?_; rintro e w2 ⟨rfl, hb2⟩; have hs2 := hb2.size; simp at hs2; have hl2 : w.heap.size < w2.heap.size := (by omega); have B2 : Hid (St w w2 b g cap L i o) := (B1.out.alloc _).below hb2; have m2 : roomAt w2 w.heap.size 6 = true := (roomAt_below hb2 _ _ (by simp; omega)).trans ((roomAt_old _ _ _ _ (by omega)).trans m1)))
      exact ⟨rfl, rfl, gb_trans (B1.out.alloc _).gb g5⟩
    | ok n t =>
      go_enter Tryd.func74, Tryd.ntmps74
      go_wp2_with (first
        | (go_at_call 81; refine (GC.out _ (B1.out.alloc _).rd).mono ?_; intro e w5 hP; obtain ⟨c5, i5, rfl, ht5, hi5, S5, nd5, s5⟩ := postN_up (B1.out.alloc _) hP (by first | omega | (simp; omega)); have m5 : roomAt w5 w.heap.size 6 = true := (s5.room (by first | omega | (simp; omega)) (by omega) 6).trans ((roomAt_old _ _ _ _ (by omega)).trans m1))
        | (go_at_call 28; refine (HE.out _ (H.out.alloc _)).mono ?_; rintro e w1 ⟨rfl, hb1⟩; have hs1 := hb1.size; simp at hs1; have hl1 : w.heap.size < w1.heap.size := (by omega); have B1 : Hid (St w w1 b g cap L i o) := ((St.refl H.out).alloc _).below hb1; have m1 : roomAt w1 w.heap.size 6 = true := (roomAt_below hb1 _ _ (by simp)).trans (roomNd_new _ _ _ _ (by simp)))
        | (go_at_call 39; refine (WA.out _ (B1.out.alloc _).rd).mono ?_; rintro e w2 ⟨rfl, hb2⟩; have hs2 := hb2.size; simp at hs2; have hl2 : w.heap.size < w2.heap.size := (by omega); have B2 : Hid (St w w2 b g cap L i o) := (B1.out.alloc _).below hb2; have m2 : roomAt w2 w.heap.size 6 = true := (roomAt_below hb2 _ _ (by simp; omega)).trans ((roomAt_old _ _ _ _ (by omega)).trans m1)))
      exact ret_cell1 rfl rfl (loadNd_row (rowNd_put _ _ _ m5)) rfl (fin_post S5 bl gl hi5 ht5 nd5)
  · have e1 : ((hd (L.drop i)).tk.k == 1) = false := by simpa [Tok.tk] using h1
    by_cases h3 : (hd (L.drop i)).k = 3
    · have e3 : ((hd (L.drop i)).tk.k == 3) = true := by simpa [Tok.tk] using h3
      rw [if_neg h1, if_pos h3]
      have GC : Hid (∀ X, RdAt X b g cap L i o → Calls Tryd.prog 82 #[.pointer (some ⟨b, 0, none⟩), .agg (⟨24, bs [], (hd (L.drop i)).n, false, none, 0, 0, 0⟩ : Nc).cells] X (PostN X b g cap L i o (.ok (.mk 24 [] (hd (L.drop i)).n false [] (hd (L.drop i)).p) (L.drop (i + 1))))) := fun X hX => literal_any X b g cap L i o hX (by omega) 24 [] (hd (L.drop i)).n
      clear h3
      clear HF HX HM HD k hwk
      generalize hd (L.drop i) = x at *
      go_enter Tryd.func74, Tryd.ntmps74
      go_wp2_with (first
        | (go_at_call 82; refine (GC.out _ (B1.out.alloc _).rd).mono ?_; intro e w5 hP; obtain ⟨c5, i5, rfl, ht5, hi5, S5, nd5, s5⟩ := postN_up (B1.out.alloc _) hP (by first | omega | (simp; omega)); have m5 : roomAt w5 w.heap.size 6 = true := (s5.room (by first | omega | (simp; omega)) (by omega) 6).trans ((roomAt_old _ _ _ _ (by omega)).trans m1))
        | (go_at_call 28; refine (HE.out _ (H.out.alloc _)).mono ?_; rintro e w1 ⟨rfl, hb1⟩; have hs1 := hb1.size; simp at hs1; have hl1 : w.heap.size < w1.heap.size := (by omega); have B1 : Hid (St w w1 b g cap L i o) := ((St.refl H.out).alloc _).below hb1; have m1 : roomAt w1 w.heap.size 6 = true := (roomAt_below hb1 _ _ (by simp)).trans (roomNd_new _ _ _ _ (by simp)))
        | (go_at_call 39; refine (WA.out _ (B1.out.alloc _).rd).mono ?_; rintro e w2 ⟨rfl, hb2⟩; have hs2 := hb2.size; simp at hs2; have hl2 : w.heap.size < w2.heap.size := (by omega); have B2 : Hid (St w w2 b g cap L i o) := (B1.out.alloc _).below hb2; have m2 : roomAt w2 w.heap.size 6 = true := (roomAt_below hb2 _ _ (by simp; omega)).trans ((roomAt_old _ _ _ _ (by omega)).trans m1)))
      exact ret_cell1 rfl rfl (loadNd_row (rowNd_put _ _ _ m5)) rfl (fin_post S5 bl gl hi5 ht5 nd5)
    · have e3 : ((hd (L.drop i)).tk.k == 3) = false := by simpa [Tok.tk] using h3
      by_cases h4 : (hd (L.drop i)).k = 4
      · have e4 : ((hd (L.drop i)).tk.k == 4) = true := by simpa [Tok.tk] using h4
        rw [if_neg h1, if_neg h3, if_pos h4]
        have GC : Hid (∀ X, RdAt X b g cap L i o → Calls Tryd.prog 82 #[.pointer (some ⟨b, 0, none⟩), .agg (⟨25, bs [], (hd (L.drop i)).n, false, none, 0, 0, 0⟩ : Nc).cells] X (PostN X b g cap L i o (.ok (.mk 25 [] (hd (L.drop i)).n false [] (hd (L.drop i)).p) (L.drop (i + 1))))) := fun X hX => literal_any X b g cap L i o hX (by omega) 25 [] (hd (L.drop i)).n
        clear h4
        clear HF HX HM HD k hwk
        generalize hd (L.drop i) = x at *
        go_enter Tryd.func74, Tryd.ntmps74
        go_wp2_with (first
          | (go_at_call 82; refine (GC.out _ (B1.out.alloc _).rd).mono ?_; intro e w5 hP; obtain ⟨c5, i5, rfl, ht5, hi5, S5, nd5, s5⟩ := postN_up (B1.out.alloc _) hP (by first | omega | (simp; omega)); have m5 : roomAt w5 w.heap.size 6 = true := (s5.room (by first | omega | (simp; omega)) (by omega) 6).trans ((roomAt_old _ _ _ _ (by omega)).trans m1))
          | (go_at_call 28; refine (HE.out _ (H.out.alloc _)).mono ?_; rintro e w1 ⟨rfl, hb1⟩; have hs1 := hb1.size; simp at hs1; have hl1 : w.heap.size < w1.heap.size := (by omega); have B1 : Hid (St w w1 b g cap L i o) := ((St.refl H.out).alloc _).below hb1; have m1 : roomAt w1 w.heap.size 6 = true := (roomAt_below hb1 _ _ (by simp)).trans (roomNd_new _ _ _ _ (by simp)))
          | (go_at_call 39; refine (WA.out _ (B1.out.alloc _).rd).mono ?_; rintro e w2 ⟨rfl, hb2⟩; have hs2 := hb2.size; simp at hs2; have hl2 : w.heap.size < w2.heap.size := (by omega); have B2 : Hid (St w w2 b g cap L i o) := (B1.out.alloc _).below hb2; have m2 : roomAt w2 w.heap.size 6 = true := (roomAt_below hb2 _ _ (by simp; omega)).trans ((roomAt_old _ _ _ _ (by omega)).trans m1)))
        exact ret_cell1 rfl rfl (loadNd_row (rowNd_put _ _ _ m5)) rfl (fin_post S5 bl gl hi5 ht5 nd5)
      · have e4 : ((hd (L.drop i)).tk.k == 4) = false := by simpa [Tok.tk] using h4
        by_cases h5 : (hd (L.drop i)).k = 5
        · have e5 : ((hd (L.drop i)).tk.k == 5) = true := by simpa [Tok.tk] using h5
          rw [if_neg h1, if_neg h3, if_neg h4, if_pos h5]
          have GC : Hid (∀ X, RdAt X b g cap L i o → Calls Tryd.prog 82 #[.pointer (some ⟨b, 0, none⟩), .agg (⟨26, bs (hd (L.drop i)).t, 0, false, none, 0, 0, 0⟩ : Nc).cells] X (PostN X b g cap L i o (.ok (.mk 26 (hd (L.drop i)).t 0 false [] (hd (L.drop i)).p) (L.drop (i + 1))))) := fun X hX => literal_any X b g cap L i o hX (by omega) 26 (hd (L.drop i)).t 0
          clear h5
          clear HF HX HM HD k hwk
          generalize hd (L.drop i) = x at *
          go_enter Tryd.func74, Tryd.ntmps74
          go_wp2_with (first
            | (go_at_call 82; refine (GC.out _ (B1.out.alloc _).rd).mono ?_; intro e w5 hP; obtain ⟨c5, i5, rfl, ht5, hi5, S5, nd5, s5⟩ := postN_up (B1.out.alloc _) hP (by first | omega | (simp; omega)); have m5 : roomAt w5 w.heap.size 6 = true := (s5.room (by first | omega | (simp; omega)) (by omega) 6).trans ((roomAt_old _ _ _ _ (by omega)).trans m1))
            | (go_at_call 28; refine (HE.out _ (H.out.alloc _)).mono ?_; rintro e w1 ⟨rfl, hb1⟩; have hs1 := hb1.size; simp at hs1; have hl1 : w.heap.size < w1.heap.size := (by omega); have B1 : Hid (St w w1 b g cap L i o) := ((St.refl H.out).alloc _).below hb1; have m1 : roomAt w1 w.heap.size 6 = true := (roomAt_below hb1 _ _ (by simp)).trans (roomNd_new _ _ _ _ (by simp)))
            | (go_at_call 39; refine (WA.out _ (B1.out.alloc _).rd).mono ?_; rintro e w2 ⟨rfl, hb2⟩; have hs2 := hb2.size; simp at hs2; have hl2 : w.heap.size < w2.heap.size := (by omega); have B2 : Hid (St w w2 b g cap L i o) := (B1.out.alloc _).below hb2; have m2 : roomAt w2 w.heap.size 6 = true := (roomAt_below hb2 _ _ (by simp; omega)).trans ((roomAt_old _ _ _ _ (by omega)).trans m1)))
          exact ret_cell1 rfl rfl (loadNd_row (rowNd_put _ _ _ m5)) rfl (fin_post S5 bl gl hi5 ht5 nd5)
        · have e5 : ((hd (L.drop i)).tk.k == 5) = false := by simpa [Tok.tk] using h5
          by_cases g0 : wd (L.drop i) = [78, 73, 76]
          · have d0 : decide (wd (L.drop i) = [78, 73, 76]) = true := by simpa using g0
            have hk0 : (hd (L.drop i)).k ≠ 0 := hwk (by rw [g0]; decide)
            rw [if_neg h1, if_neg h3, if_neg h4, if_neg h5, if_pos g0]
            have GC : Hid (∀ X, RdAt X b g cap L i o → Calls Tryd.prog 82 #[.pointer (some ⟨b, 0, none⟩), .agg (⟨27, bs [], 0, false, none, 0, 0, 0⟩ : Nc).cells] X (PostN X b g cap L i o (.ok (.mk 27 [] 0 false [] (hd (L.drop i)).p) (L.drop (i + 1))))) := fun X hX => literal_any X b g cap L i o hX hk0 27 [] 0
            clear HF HX HM HD hwk hk0 g0
            generalize hd (L.drop i) = x at *
            go_enter Tryd.func74, Tryd.ntmps74
            go_wp2_with (first
              | (go_at_call 82; refine (GC.out _ B2.out.rd).mono ?_; intro e w5 hP; obtain ⟨c5, i5, rfl, ht5, hi5, S5, nd5, s5⟩ := postN_up B2.out hP (by first | omega | (simp; omega)); have m5 : roomAt w5 w.heap.size 6 = true := (s5.room (by first | omega | (simp; omega)) (by omega) 6).trans m2)
              | (go_at_call 28; refine (HE.out _ (H.out.alloc _)).mono ?_; rintro e w1 ⟨rfl, hb1⟩; have hs1 := hb1.size; simp at hs1; have hl1 : w.heap.size < w1.heap.size := (by omega); have B1 : Hid (St w w1 b g cap L i o) := ((St.refl H.out).alloc _).below hb1; have m1 : roomAt w1 w.heap.size 6 = true := (roomAt_below hb1 _ _ (by simp)).trans (roomNd_new _ _ _ _ (by simp)))
              | (go_at_call 39; refine (WA.out _ (B1.out.alloc _).rd).mono ?_; rintro e w2 ⟨rfl, hb2⟩; have hs2 := hb2.size; simp at hs2; have hl2 : w.heap.size < w2.heap.size := (by omega); have B2 : Hid (St w w2 b g cap L i o) := (B1.out.alloc _).below hb2; have m2 : roomAt w2 w.heap.size 6 = true := (roomAt_below hb2 _ _ (by simp; omega)).trans ((roomAt_old _ _ _ _ (by omega)).trans m1)))
            exact ret_cell1 rfl rfl (loadNd_row (rowNd_put _ _ _ m5)) rfl (fin_post S5 bl gl hi5 ht5 nd5)
          · have d0 : decide (wd (L.drop i) = [78, 73, 76]) = false := by simpa using g0
            by_cases g1 : wd (L.drop i) = [84, 82, 85, 69]
            · have d1 : decide (wd (L.drop i) = [84, 82, 85, 69]) = true := by simpa using g1
              have hk0 : (hd (L.drop i)).k ≠ 0 := hwk (by rw [g1]; decide)
              rw [if_neg h1, if_neg h3, if_neg h4, if_neg h5, if_neg g0, if_pos g1]
              have GC : Hid (∀ X, RdAt X b g cap L i o → Calls Tryd.prog 82 #[.pointer (some ⟨b, 0, none⟩), .agg (⟨28, bs [], 1, false, none, 0, 0, 0⟩ : Nc).cells] X (PostN X b g cap L i o (.ok (.mk 28 [] 1 false [] (hd (L.drop i)).p) (L.drop (i + 1))))) := fun X hX => literal_any X b g cap L i o hX hk0 28 [] 1
              clear HF HX HM HD hwk hk0 g1
              generalize hd (L.drop i) = x at *
              go_enter Tryd.func74, Tryd.ntmps74
              go_wp2_with (first
                | (go_at_call 82; refine (GC.out _ B2.out.rd).mono ?_; intro e w5 hP; obtain ⟨c5, i5, rfl, ht5, hi5, S5, nd5, s5⟩ := postN_up B2.out hP (by first | omega | (simp; omega)); have m5 : roomAt w5 w.heap.size 6 = true := (s5.room (by first | omega | (simp; omega)) (by omega) 6).trans m2)
                | (go_at_call 28; refine (HE.out _ (H.out.alloc _)).mono ?_; rintro e w1 ⟨rfl, hb1⟩; have hs1 := hb1.size; simp at hs1; have hl1 : w.heap.size < w1.heap.size := (by omega); have B1 : Hid (St w w1 b g cap L i o) := ((St.refl H.out).alloc _).below hb1; have m1 : roomAt w1 w.heap.size 6 = true := (roomAt_below hb1 _ _ (by simp)).trans (roomNd_new _ _ _ _ (by simp)))
                | (go_at_call 39; refine (WA.out _ (B1.out.alloc _).rd).mono ?_; rintro e w2 ⟨rfl, hb2⟩; have hs2 := hb2.size; simp at hs2; have hl2 : w.heap.size < w2.heap.size := (by omega); have B2 : Hid (St w w2 b g cap L i o) := (B1.out.alloc _).below hb2; have m2 : roomAt w2 w.heap.size 6 = true := (roomAt_below hb2 _ _ (by simp; omega)).trans ((roomAt_old _ _ _ _ (by omega)).trans m1)))
              exact ret_cell1 rfl rfl (loadNd_row (rowNd_put _ _ _ m5)) rfl (fin_post S5 bl gl hi5 ht5 nd5)
            · have d1 : decide (wd (L.drop i) = [84, 82, 85, 69]) = false := by simpa using g1
              by_cases g2 : wd (L.drop i) = [70, 65, 76, 83, 69]
              · have d2 : decide (wd (L.drop i) = [70, 65, 76, 83, 69]) = true := by simpa using g2
                have hk0 : (hd (L.drop i)).k ≠ 0 := hwk (by rw [g2]; decide)
                rw [if_neg h1, if_neg h3, if_neg h4, if_neg h5, if_neg g0, if_neg g1, if_pos g2]
                have GC : Hid (∀ X, RdAt X b g cap L i o → Calls Tryd.prog 82 #[.pointer (some ⟨b, 0, none⟩), .agg (⟨28, bs [], 0, false, none, 0, 0, 0⟩ : Nc).cells] X (PostN X b g cap L i o (.ok (.mk 28 [] 0 false [] (hd (L.drop i)).p) (L.drop (i + 1))))) := fun X hX => literal_any X b g cap L i o hX hk0 28 [] 0
                clear HF HX HM HD hwk hk0 g2
                generalize hd (L.drop i) = x at *
                go_enter Tryd.func74, Tryd.ntmps74
                go_wp2_with (first
                  | (go_at_call 82; refine (GC.out _ B2.out.rd).mono ?_; intro e w5 hP; obtain ⟨c5, i5, rfl, ht5, hi5, S5, nd5, s5⟩ := postN_up B2.out hP (by first | omega | (simp; omega)); have m5 : roomAt w5 w.heap.size 6 = true := (s5.room (by first | omega | (simp; omega)) (by omega) 6).trans m2)
                  | (go_at_call 28; refine (HE.out _ (H.out.alloc _)).mono ?_; rintro e w1 ⟨rfl, hb1⟩; have hs1 := hb1.size; simp at hs1; have hl1 : w.heap.size < w1.heap.size := (by omega); have B1 : Hid (St w w1 b g cap L i o) := ((St.refl H.out).alloc _).below hb1; have m1 : roomAt w1 w.heap.size 6 = true := (roomAt_below hb1 _ _ (by simp)).trans (roomNd_new _ _ _ _ (by simp)))
                  | (go_at_call 39; refine (WA.out _ (B1.out.alloc _).rd).mono ?_; rintro e w2 ⟨rfl, hb2⟩; have hs2 := hb2.size; simp at hs2; have hl2 : w.heap.size < w2.heap.size := (by omega); have B2 : Hid (St w w2 b g cap L i o) := (B1.out.alloc _).below hb2; have m2 : roomAt w2 w.heap.size 6 = true := (roomAt_below hb2 _ _ (by simp; omega)).trans ((roomAt_old _ _ _ _ (by omega)).trans m1)))
                exact ret_cell1 rfl rfl (loadNd_row (rowNd_put _ _ _ m5)) rfl (fin_post S5 bl gl hi5 ht5 nd5)
              · have d2 : decide (wd (L.drop i) = [70, 65, 76, 83, 69]) = false := by simpa using g2
                by_cases g3 : wd (L.drop i) = [126]
                · have d3 : decide (wd (L.drop i) = [126]) = true := by simpa using g3
                  have hk0 : (hd (L.drop i)).k ≠ 0 := hwk (by rw [g3]; decide)
                  rw [if_neg h1, if_neg h3, if_neg h4, if_neg h5, if_neg g0, if_neg g1, if_neg g2, if_pos g3]
                  have GC : Hid (∀ X, RdAt X b g cap L i o → Calls Tryd.prog 73 #[.pointer (some ⟨b, 0, none⟩), .func (.func 74) #[.pointer (some ⟨b, 0, none⟩)] #[]] X (PostN X b g cap L i o (unaR (f + 1) o (L.drop i)))) := fun X hX => una_factor (f + 1) HF.out X b g cap L i o hX hk0 (by omega)
                  clear HF HX HM HD hwk hk0 g3
                  generalize hd (L.drop i) = x at *
                  generalize unaR (f + 1) o (L.drop i) = R at GC ⊢
                  cases R with
                  | bad p er =>
                    go_enter Tryd.func74, Tryd.ntmps74
                    go_wp2_with (first
                      | (go_at_call 73; refine (GC.out _ B2.out.rd).mono ?_; rintro e w5 ⟨he, g5⟩; unfold gaveUp at he; subst he)
                      | (go_at_call 28; refine (HE.out _ (H.out.alloc _)).mono ?_; rintro e w1 ⟨rfl, hb1⟩; have hs1 := hb1.size; simp at hs1; have hl1 : w.heap.size < w1.heap.size := (by omega); have B1 : Hid (St w w1 b g cap L i o) := ((St.refl H.out).alloc _).below hb1; have m1 : roomAt w1 w.heap.size 6 = true := (roomAt_below hb1 _ _ (by simp)).trans (roomNd_new _ _ _ _ (by simp)))
                      | (go_at_call 39; refine (WA.out _ (B1.out.alloc _).rd).mono ?_; rintro e w2 ⟨rfl, hb2⟩; have hs2 := hb2.size; simp at hs2; have hl2 : w.heap.size < w2.heap.size := (by omega); have B2 : Hid (St w w2 b g cap L i o) := (B1.out.alloc _).below hb2; have m2 : roomAt w2 w.heap.size 6 = true := (roomAt_below hb2 _ _ (by simp; omega)).trans ((roomAt_old _ _ _ _ (by omega)).trans m1)))
                    exact ⟨rfl, rfl, gb_trans B2.out.gb g5⟩
                  | ok n t =>
                    go_enter Tryd.func74, Tryd.ntmps74
                    go_wp2_with (first
                      | (go_at_call 73; refine (GC.out _ B2.out.rd).mono ?_; intro e w5 hP; obtain ⟨c5, i5, rfl, ht5, hi5, S5, nd5, s5⟩ := postN_up B2.out hP (by first | omega | (simp; omega)); have m5 : roomAt w5 w.heap.size 6 = true := (s5.room (by first | omega | (simp; omega)) (by omega) 6).trans m2)
                      | (go_at_call 28; refine (HE.out _ (H.out.alloc _)).mono ?_; rintro e w1 ⟨rfl, hb1⟩; have hs1 := hb1.size; simp at hs1; have hl1 : w.heap.size < w1.heap.size := (by omega); have B1 : Hid (St w w1 b g cap L i o) := ((St.refl H.out).alloc _).below hb1; have m1 : roomAt w1 w.heap.size 6 = true := (roomAt_below hb1 _ _ (by simp)).trans (roomNd_new _ _ _ _ (by simp)))
                      | (go_at_call 39; refine (WA.out _ (B1.out.alloc _).rd).mono ?_; rintro e w2 ⟨rfl, hb2⟩; have hs2 := hb2.size; simp at hs2; have hl2 : w.heap.size < w2.heap.size := (by omega); have B2 : Hid (St w w2 b g cap L i o) := (B1.out.alloc _).below hb2; have m2 : roomAt w2 w.heap.size 6 = true := (roomAt_below hb2 _ _ (by simp; omega)).trans ((roomAt_old _ _ _ _ (by omega)).trans m1)))
                    exact ret_cell1 rfl rfl (loadNd_row (rowNd_put _ _ _ m5)) rfl (fin_post S5 bl gl hi5 ht5 nd5)
                · have d3 : decide (wd (L.drop i) = [126]) = false := by simpa using g3
                  by_cases g4 : wd (L.drop i) = [123]
                  · have d4 : decide (wd (L.drop i) = [123]) = true := by simpa using g4
                    have hk0 : (hd (L.drop i)).k ≠ 0 := hwk (by rw [g4]; decide)
                    rw [if_neg h1, if_neg h3, if_neg h4, if_neg h5, if_neg g0, if_neg g1, if_neg g2, if_neg g3, if_pos g4]
                    have GC : Hid (∀ X, RdAt X b g cap L i o → Calls Tryd.prog 83 #[.pointer (some ⟨b, 0, none⟩)] X (PostN X b g cap L i o (setR (f + 1) o (L.drop i)))) := fun X hX => set_step f HM.out X b g cap L i o hX hk0 (by omega)
                    clear HF HX HM HD hwk hk0 g4
                    generalize hd (L.drop i) = x at *
                    generalize setR (f + 1) o (L.drop i) = R at GC ⊢
                    cases R with
                    | bad p er =>
                      go_enter Tryd.func74, Tryd.ntmps74
                      go_wp2_with (first
                        | (go_at_call 83; refine (GC.out _ B2.out.rd).mono ?_; rintro e w5 ⟨he, g5⟩; unfold gaveUp at he; subst he)
                        | (go_at_call 28; refine (HE.out _ (H.out.alloc _)).mono ?_; rintro e w1 ⟨rfl, hb1⟩; have hs1 := hb1.size; simp at hs1; have hl1 : w.heap.size < w1.heap.size := (by omega); have B1 : Hid (St w w1 b g cap L i o) := ((St.refl H.out).alloc _).below hb1; have m1 : roomAt w1 w.heap.size 6 = true := (roomAt_below hb1 _ _ (by simp)).trans (roomNd_new _ _ _ _ (by simp)))
                        | (go_at_call 39; refine (WA.out _ (B1.out.alloc _).rd).mono ?_; rintro e w2 ⟨rfl, hb2⟩; have hs2 := hb2.size; simp at hs2; have hl2 : w.heap.size < w2.heap.size := (by omega); have B2 : Hid (St w w2 b g cap L i o) := (B1.out.alloc _).below hb2; have m2 : roomAt w2 w.heap.size 6 = true := (roomAt_below hb2 _ _ (by simp; omega)).trans ((roomAt_old _ _ _ _ (by omega)).trans m1)))
                      exact ⟨rfl, rfl, gb_trans B2.out.gb g5⟩
                    | ok n t =>
                      go_enter Tryd.func74, Tryd.ntmps74
                      go_wp2_with (first
                        | (go_at_call 83; refine (GC.out _ B2.out.rd).mono ?_; intro e w5 hP; obtain ⟨c5, i5, rfl, ht5, hi5, S5, nd5, s5⟩ := postN_up B2.out hP (by first | omega | (simp; omega)); have m5 : roomAt w5 w.heap.size 6 = true := (s5.room (by first | omega | (simp; omega)) (by omega) 6).trans m2)
                        | (go_at_call 28; refine (HE.out _ (H.out.alloc _)).mono ?_; rintro e w1 ⟨rfl, hb1⟩; have hs1 := hb1.size; simp at hs1; have hl1 : w.heap.size < w1.heap.size := (by omega); have B1 : Hid (St w w1 b g cap L i o) := ((St.refl H.out).alloc _).below hb1; have m1 : roomAt w1 w.heap.size 6 = true := (roomAt_below hb1 _ _ (by simp)).trans (roomNd_new _ _ _ _ (by simp)))
                        | (go_at_call 39; refine (WA.out _ (B1.out.alloc _).rd).mono ?_; rintro e w2 ⟨rfl, hb2⟩; have hs2 := hb2.size; simp at hs2; have hl2 : w.heap.size < w2.heap.size := (by omega); have B2 : Hid (St w w2 b g cap L i o) := (B1.out.alloc _).below hb2; have m2 : roomAt w2 w.heap.size 6 = true := (roomAt_below hb2 _ _ (by simp; omega)).trans ((roomAt_old _ _ _ _ (by omega)).trans m1)))
                      exact ret_cell1 rfl rfl (loadNd_row (rowNd_put _ _ _ m5)) rfl (fin_post S5 bl gl hi5 ht5 nd5)
                  · have d4 : decide (wd (L.drop i) = [123]) = false := by simpa using g4
                    by_cases g5 : wd (L.drop i) = [40]
                    · have d5 : decide (wd (L.drop i) = [40]) = true := by simpa using g5
                      have hk0 : (hd (L.drop i)).k ≠ 0 := hwk (by rw [g5]; decide)
                      rw [if_neg h1, if_neg h3, if_neg h4, if_neg h5, if_neg g0, if_neg g1, if_neg g2, if_neg g3, if_neg g4, if_pos g5]
                      have GC : Hid (∀ X, RdAt X b g cap L i o → Calls Tryd.prog 84 #[.pointer (some ⟨b, 0, none⟩)] X (PostN X b g cap L i o (grpR (f + 1) o (L.drop i)))) := fun X hX => group_step (f + 1) HX.out X b g cap L i o hX hk0 (by omega)
                      clear HF HX HM HD hwk hk0 g5
                      generalize hd (L.drop i) = x at *
                      generalize grpR (f + 1) o (L.drop i) = R at GC ⊢
                      cases R with
                      | bad p er =>
                        go_enter Tryd.func74, Tryd.ntmps74
                        go_wp2_with (first
                          | (go_at_call 84; refine (GC.out _ B2.out.rd).mono ?_; rintro e w5 ⟨he, g5⟩; unfold gaveUp at he; subst he)
                          | (go_at_call 28; refine (HE.out _ (H.out.alloc _)).mono ?_; rintro e w1 ⟨rfl, hb1⟩; have hs1 := hb1.size; simp at hs1; have hl1 : w.heap.size < w1.heap.size := (by omega); have B1 : Hid (St w w1 b g cap L i o) := ((St.refl H.out).alloc _).below hb1; have m1 : roomAt w1 w.heap.size 6 = true := (roomAt_below hb1 _ _ (by simp)).trans (roomNd_new _ _ _ _ (by simp)))
                          | (go_at_call 39; refine (WA.out _ (B1.out.alloc _).rd).mono ?_; rintro e w2 ⟨rfl, hb2⟩; have hs2 := hb2.size; simp at hs2; have hl2 : w.heap.size < w2.heap.size := (by omega); have B2 : Hid (St w w2 b g cap L i o) := (B1.out.alloc _).below hb2; have m2 : roomAt w2 w.heap.size 6 = true := (roomAt_below hb2 _ _ (by simp; omega)).trans ((roomAt_old _ _ _ _ (by omega)).trans m1)))
                        exact ⟨rfl, rfl, gb_trans B2.out.gb g5⟩
                      | ok n t =>
                        go_enter Tryd.func74, Tryd.ntmps74
                        go_wp2_with (first
                          | (go_at_call 84; refine (GC.out _ B2.out.rd).mono ?_; intro e w5 hP; obtain ⟨c5, i5, rfl, ht5, hi5, S5, nd5, s5⟩ := postN_up B2.out hP (by first | omega | (simp; omega)); have m5 : roomAt w5 w.heap.size 6 = true := (s5.room (by first | omega | (simp; omega)) (by omega) 6).trans m2)
                          | (go_at_call 28; refine (HE.out _ (H.out.alloc _)).mono ?_; rintro e w1 ⟨rfl, hb1⟩; have hs1 := hb1.size; simp at hs1; have hl1 : w.heap.size < w1.heap.size := (by omega); have B1 : Hid (St w w1 b g cap L i o) := ((St.refl H.out).alloc _).below hb1; have m1 : roomAt w1 w.heap.size 6 = true := (roomAt_below hb1 _ _ (by simp)).trans (roomNd_new _ _ _ _ (by simp)))
                          | (go_at_call 39; refine (WA.out _ (B1.out.alloc _).rd).mono ?_; rintro e w2 ⟨rfl, hb2⟩; have hs2 := hb2.size; simp at hs2; have hl2 : w.heap.size < w2.heap.size := (by omega); have B2 : Hid (St w w2 b g cap L i o) := (B1.out.alloc _).below hb2; have m2 : roomAt w2 w.heap.size 6 = true := (roomAt_below hb2 _ _ (by simp; omega)).trans ((roomAt_old _ _ _ _ (by omega)).trans m1)))
                        exact ret_cell1 rfl rfl (loadNd_row (rowNd_put _ _ _ m5)) rfl (fin_post S5 bl gl hi5 ht5 nd5)
                    · have d5 : decide (wd (L.drop i) = [40]) = false := by simpa using g5
                      rw [if_neg h1, if_neg h3, if_neg h4, if_neg h5, if_neg g0, if_neg g1, if_neg g2, if_neg g3, if_neg g4, if_neg g5]
                      clear HF HX HM HD hwk
                      generalize hd (L.drop i) = x at *
                      go_enter Tryd.func74, Tryd.ntmps74
                      go_wp2_with (first
                        | (go_at_call 28; refine (HE.out _ (H.out.alloc _)).mono ?_; rintro e w1 ⟨rfl, hb1⟩; have hs1 := hb1.size; simp at hs1; have hl1 : w.heap.size < w1.heap.size := (by omega); have B1 : Hid (St w w1 b g cap L i o) := ((St.refl H.out).alloc _).below hb1; have m1 : roomAt w1 w.heap.size 6 = true := (roomAt_below hb1 _ _ (by simp)).trans (roomNd_new _ _ _ _ (by simp)))
                        | (go_at_call 39; refine (WA.out _ (B1.out.alloc _).rd).mono ?_; rintro e w2 ⟨rfl, hb2⟩; have hs2 := hb2.size; simp at hs2; have hl2 : w.heap.size < w2.heap.size := (by omega); have B2 : Hid (St w w2 b g cap L i o) := (B1.out.alloc _).below hb2; have m2 : roomAt w2 w.heap.size 6 = true := (roomAt_below hb2 _ _ (by simp; omega)).trans ((roomAt_old _ _ _ _ (by omega)).trans m1))
                        | (go_at_call 29; refine (FA.out _ B2.out.rd).mono ?_; rintro e w5 ⟨rfl, hb5⟩))
                      exact ⟨rfl, rfl, (B2.out.below hb5).gb⟩
/-- All of the program's expressions. -/
theorem exprs_all : ∀ n f, f ≤ n → Pc 16 .expr f ∧ Pc 43 .simple f ∧ Pc 61 .first f ∧ Pc 62 .term f ∧ Pc 74 .factor f ∧ Pc 81 .desig f ∧ Pc 88 .elem f := by
  have zero : ∀ F nt, 1 ≤ lv nt → Pc F nt 0 := fun F nt h w b g cap L i o hR hf => by omega
  intro n
  induction n with
  | zero =>
    intro f hf
    obtain rfl : f = 0 := by omega
    exact ⟨zero _ _ (by decide), zero _ _ (by decide), zero _ _ (by decide), zero _ _ (by decide), zero _ _ (by decide), zero _ _ (by decide), zero _ _ (by decide)⟩
  | succ n ih =>
    intro f hf
    by_cases h : f ≤ n
    · exact ih f h
    · obtain rfl : f = n + 1 := by omega
      obtain ⟨e1, e2, e3, e4, e5, e6, e7⟩ := ih n (Nat.le_refl _)
      refine ⟨expr_step n e2, simple_step n e3 (fun f' h' => (ih f' h').2.2.2.1), first_step n e4, term_step n e5 (fun f' h' => (ih f' h').2.2.2.2.1), ?_, desig_step n (fun f' h' => (ih f' h').1), elem_step n e1⟩
      cases n with
      | zero => exact fun w b g cap L i o hR hf => absurd hf (by show ¬ (_ + 12 ≤ 1); omega)
      | succ m => exact factor_step m e5 e6 e1 (fun f' h' => (ih f' (by omega)).2.2.2.2.2.2)
end Go.Proofs.YtllhcjmabhempaaDoor
