/-
  Layer 9, the document's: keywords, kinds, what goes on, what must stand there.
-/
import Derived.Test.YtejcjhoojpoamaaDoorDat
namespace Go.Proofs.YtejcjhoojpoamaaDoor
set_option linter.unusedVariables false
set_option linter.unusedSimpArgs false
open Go.ChangeShapes Go.WideShapes Go.ChangeAt Go.RowKit
attribute [local go_sem ↓] loadTk_seal storeTk_seal loadKeys_seal loadSigns_seal
attribute [local go_sem] loadTk_run storeTk_run rowAt_at rowAt_old rowAt_drew rowAt_drewN roomTk_new roomAt_old roomAt_drew roomAt_drewN putTk_new Tk.fold putRow_past rowTk_put size_put putRow_drew putRow_drewN alloc_drewN setCell_drewN Tk.at0 Tk.at1 Tk.at2 Tk.at3 Tk.size Tk.set0 Tk.set1 Tk.set2 Tk.set3 Tk.ne rowAt_set rowAt_far roomAt_far
attribute [local go_sem ↓] loadNd_seal storeNd_seal
attribute [local go_sem] loadNd_run storeNd_run roomNd_new putNd_new Nc.fold rowNd_put Nc.at0 Nc.at1 Nc.at2 Nc.at3 Nc.at4 Nc.at5 Nc.size Nc.set0 Nc.set1 Nc.set2 Nc.set3 Nc.set4 Nc.set5 Nc.ne
attribute [local go_sem] fieldTk0 fieldTk3

set_option maxHeartbeats 1000000 in
set_option maxRecDepth 20000 in
theorem kind_d (w : World) (b g cap : Nat) (L : List Tok) (i : Nat) (o er p : Int) (h : DAt w b g cap L i o er p) (k : Int) :
    Calls Tryd.prog 21 #[.pointer (some ⟨b, 0, none⟩), .int .i64 k] w fun e w' => e = .returned (.bool (kdB er (hd (L.drop i)) k)) ∧ Below w.heap.size w w' := by
  have HE : Hid (∀ X, DAt X b g cap L i o er p → Calls Tryd.prog 39 #[.pointer (some ⟨b, 0, none⟩)] X _) := fun X hX => peek_d X b g cap L i o er p hX
  have H : Hid (DAt w b g cap L i o er p) := h
  generalize hd (L.drop i) = x at HE
  have HB : Hid (kdB er x k = ((er == 0) && (x.tk.k == k))) := rfl
  have c3 := h.c3
  have bl := h.bl
  clear h
  cases h1 : (er == 0)
  · go_enter Tryd.func21, Tryd.ntmps21
    go_wp2
    go_ret
    exact ⟨by rw [HB.out, h1]; rfl, by go_grown⟩
  · go_enter Tryd.func21, Tryd.ntmps21
    go_wp2_with (go_at_call 39; refine (HE.out _ (by first | exact H.out | exact H.out.alloc _)).mono ?_; rintro e w1 ⟨rfl, hb1⟩; have hs1 := hb1.size)
    go_ret
    exact ⟨by rw [HB.out, h1]; rfl, by go_grown⟩
set_option maxHeartbeats 1000000 in
set_option maxRecDepth 20000 in
theorem next_d (w : World) (b g cap : Nat) (L : List Tok) (i : Nat) (o er p : Int) (h : DAt w b g cap L i o er p) (hk : (hd (L.drop i)).k ≠ 0) :
    Calls Tryd.prog 36 #[.pointer (some ⟨b, 0, none⟩)] w fun e w' => e = .returned (.agg (hd (L.drop i)).tk.cells) ∧ Ds w w' b g cap L (i + 1) o er p := by
  have HE : Hid (∀ X, DAt X b g cap L i o er p → Calls Tryd.prog 39 #[.pointer (some ⟨b, 0, none⟩)] X _) := fun X hX => peek_d X b g cap L i o er p hX
  have hn : i + 1 < L.length := h.last i h.il (by rw [← h.hd]; exact hk)
  have hll := h.ll
  have H : Hid (DAt w b g cap L i o er p) := h
  have bl := h.bl
  have hb1 : decide ((i : Int) < (L.length : Int) - 1) = true := by simp; omega
  have hb2 : (i : Int) < (L.length : Int) - 1 := by omega
  clear h hk
  generalize hd (L.drop i) = x at HE
  go_enter Tryd.func36, Tryd.ntmps36
  go_wp2_with (go_at_call 39; refine (HE.out _ (H.out.alloc _)).mono ?_; rintro e w1 ⟨rfl, hb1⟩; have hs1 := hb1.size; simp at hs1; have hB : Below w.heap.size w w1 := (by go_grown : Below w.heap.size w (w.alloc (.cells ({ k := 0, t := ⟨#[]⟩, n := 0, p := 0 } : Tk).cells 38))).trans (hb1.mono (by simp)); have R1 : Hid (DAt w1 b g cap L i o er p) := H.out.below hB; have bl1 := R1.out.bl; have hl1 : w.heap.size < w1.heap.size := (by omega); have hn1 : w.heap.size ≠ b := (by omega); have c0 := R1.out.c0; have c1 := R1.out.c1; have fz := R1.out.fz; have p0 : roomAt w1 w.heap.size 4 = true := (roomAt_below hb1 _ _ (by simp)).trans (roomTk_new _ _ _ _ rfl))
  go_region
  go_wp2
  have R2 := (((R1.out.setI (i + 1) hn).put w.heap.size x.tk.cells (by omega) (by have := H.out.gl; omega)).alloc (.cells x.tk.cells 38)).drew
  exact ret_cell1 rfl rfl (loadTk_row (c := x.tk) ((rowAt_drew _ _).trans ((rowAt_old _ _ _ (by rw [size_put]; simp; omega)).trans (rowTk_put _ _ _ ((roomAt_far _ _ _ _ _ (by simpa using hn1)).trans p0))))) rfl ⟨rfl, by simpa using R2, gb_drew (gb_alloc (gb_put (gb_set (gb_of_below hB b)) (Nat.le_refl _)) _)⟩
set_option maxHeartbeats 1000000 in
set_option maxRecDepth 20000 in
theorem when_t (w : World) (b g cap : Nat) (L : List Tok) (i : Nat) (o er p : Int) (h : DAt w b g cap L i o er p) (hk : (hd (L.drop i)).k ≠ 0) :
    Calls Tryd.prog 129 #[.pointer (some ⟨b, 0, none⟩), .bool true] w fun e w' => e = .returned (.bool true) ∧ Ds w w' b g cap L (i + 1) o er p := by
  have PA := next_d w b g cap L i o er p h hk
  clear h hk
  go_enter Tryd.func129, Tryd.ntmps129
  go_wp2_with (go_at_call 36; refine PA.mono ?_; rintro e w2 ⟨rfl, s2⟩)
  go_ret
  exact ⟨rfl, s2⟩
set_option maxHeartbeats 1000000 in
set_option maxRecDepth 20000 in
theorem when_f (w : World) (b : Nat) :
    Calls Tryd.prog 129 #[.pointer (some ⟨b, 0, none⟩), .bool false] w fun e w' => e = .returned (.bool false) ∧ w' = w := by
  go_enter Tryd.func129, Tryd.ntmps129
  go_wp2
  go_ret
  exact ⟨rfl, rfl⟩
set_option maxHeartbeats 1000000 in
set_option maxRecDepth 20000 in
theorem wrong_live (w : World) (b g cap : Nat) (L : List Tok) (i : Nat) (o p : Int) (h : DAt w b g cap L i o 0 p) (er : Int) :
    Calls Tryd.prog 38 #[.pointer (some ⟨b, 0, none⟩), .int .i64 er] w fun e w' => e = .returned (.tuple #[]) ∧ Ds w w' b g cap L i o er ((hd (L.drop i)).p : Int) := by
  have H : Hid (DAt w b g cap L i o 0 p) := h
  have hil := h.il
  have hll := h.ll
  have c0 := h.c0
  have c1 := h.c1
  have c3 := h.c3
  have c4 := h.c4
  have fz := h.fz
  have t3 := h.tok i h.il 3 (by omega)
  rw [Tk.at3, ← h.hd] at t3
  have bl := h.bl
  have gl := h.gl
  have ne := h.ne
  have hb1 : (0 : Int) ≤ (i : Int) := by omega
  have hb2 : (i : Int) < (L.length : Int) := by omega
  have t3' : w.cell? ⟨g, i * 4 + 3, none⟩ = some (.int .i64 ((hd (L.drop i)).p : Int)) := t3
  clear h t3
  have R0 : Hid (Ds w ((w.setCell ⟨b, 3, none⟩ (.int .i64 er)).setCell ⟨b, 4, none⟩ (.int .i64 ((hd (L.drop i)).p : Int))) b g cap L i o er ((hd (L.drop i)).p : Int)) := ⟨(H.out.setE er).setP _, gb_set (gb_set (gb_of_below (Below.refl _ _) b))⟩
  generalize ((hd (L.drop i)).p : Int) = q at R0 t3' ⊢
  go_enter Tryd.func38, Tryd.ntmps38
  go_wp2
  go_region
  go_wp2
  first
    | exact bodyPost_ret (v := .tuple #[]) rfl rfl ⟨rfl, by simpa using R0.out.drew⟩
    | exact ⟨rfl, _, rfl, rfl, by simpa using R0.out.drew⟩
    | (go_end0; exact ⟨rfl, by simpa using R0.out.drew⟩)
set_option maxHeartbeats 1000000 in
set_option maxRecDepth 20000 in
theorem wrong_dead (w : World) (b g cap : Nat) (L : List Tok) (i : Nat) (o e p : Int) (h : DAt w b g cap L i o e p) (he : e ≠ 0) (er : Int) :
    Calls Tryd.prog 38 #[.pointer (some ⟨b, 0, none⟩), .int .i64 er] w fun r w' => r = .returned (.tuple #[]) ∧ Below w.heap.size w w' := by
  have c3 := h.c3
  have bl := h.bl
  have h0 : (e == 0) = false := by simpa using he
  clear h he
  go_enter Tryd.func38, Tryd.ntmps38
  go_wp2
  first
    | exact bodyPost_ret (v := .tuple #[]) rfl rfl ⟨rfl, by go_grown⟩
    | exact ⟨rfl, _, rfl, rfl, by go_grown⟩
    | (go_end0; exact ⟨rfl, by go_grown⟩)
set_option maxHeartbeats 1000000 in
set_option maxRecDepth 20000 in
theorem must_t (w : World) (b g cap : Nat) (L : List Tok) (i : Nat) (o er p : Int) (h : DAt w b g cap L i o er p) (hk : (hd (L.drop i)).k ≠ 0) :
    Calls Tryd.prog 20 #[.pointer (some ⟨b, 0, none⟩), .bool true] w fun e w' => e = .returned (.agg (hd (L.drop i)).tk.cells) ∧ Ds w w' b g cap L (i + 1) o er p := by
  have PA : Hid (∀ X, DAt X b g cap L i o er p → Calls Tryd.prog 36 #[.pointer (some ⟨b, 0, none⟩)] X _) := fun X hX => next_d X b g cap L i o er p hX hk
  have H : Hid (DAt w b g cap L i o er p) := h
  have bl := h.bl
  have gl := h.gl
  clear h hk
  generalize (hd (L.drop i)).tk = x at PA ⊢
  go_enter Tryd.func20, Tryd.ntmps20
  go_wp2_with (go_at_call 36; refine (PA.out _ (H.out.alloc _)).mono ?_; rintro e w2 ⟨rfl, s2⟩; have s3 := ((Ds.refl H.out).alloc _).next s2; have p2 : roomAt w2 w.heap.size 4 = true := (s2.room (by simp) (by omega) 4).trans (roomTk_new _ _ _ _ (by simp)))
  exact ret_cell1 rfl rfl (loadTk_row (c := x) (rowTk_put _ _ _ p2)) rfl ⟨rfl, s3.old bl gl _ (Nat.le_refl _) _⟩
set_option maxHeartbeats 1000000 in
set_option maxRecDepth 20000 in
theorem must_f_live (w : World) (b g cap : Nat) (L : List Tok) (i : Nat) (o p : Int) (h : DAt w b g cap L i o 0 p) :
    Calls Tryd.prog 20 #[.pointer (some ⟨b, 0, none⟩), .bool false] w fun r w' => r = .returned (.agg (Tk.mk 0 ⟨#[]⟩ 0 0).cells) ∧ Ds w w' b g cap L i o 90 ((hd (L.drop i)).p : Int) := by
  have PA : Hid (∀ X, DAt X b g cap L i o 0 p → Calls Tryd.prog 38 #[.pointer (some ⟨b, 0, none⟩), .int .i64 90] X _) := fun X hX => wrong_live X b g cap L i o p hX 90
  have H : Hid (DAt w b g cap L i o 0 p) := h
  have bl := h.bl
  have gl := h.gl
  clear h
  go_enter Tryd.func20, Tryd.ntmps20
  go_wp2_with (go_at_call 38; refine (PA.out _ (H.out.alloc _)).mono ?_; rintro e w2 ⟨rfl, s2⟩; have s3 := ((Ds.refl H.out).alloc _).next s2; have p2 : roomAt w2 w.heap.size 4 = true := (s2.room (by simp) (by omega) 4).trans (roomTk_new _ _ _ _ (by simp)))
  exact ret_cell1 rfl rfl (loadTk_row (c := Tk.mk 0 ⟨#[]⟩ 0 0) (rowTk_put _ _ _ p2)) rfl ⟨rfl, s3.old bl gl _ (Nat.le_refl _) _⟩
set_option maxHeartbeats 1000000 in
set_option maxRecDepth 20000 in
theorem must_f_dead (w : World) (b g cap : Nat) (L : List Tok) (i : Nat) (o e p : Int) (h : DAt w b g cap L i o e p) (he : e ≠ 0) :
    Calls Tryd.prog 20 #[.pointer (some ⟨b, 0, none⟩), .bool false] w fun r w' => r = .returned (.agg (Tk.mk 0 ⟨#[]⟩ 0 0).cells) ∧ Ds w w' b g cap L i o e p := by
  have PA : Hid (∀ X, DAt X b g cap L i o e p → Calls Tryd.prog 38 #[.pointer (some ⟨b, 0, none⟩), .int .i64 90] X _) := fun X hX => wrong_dead X b g cap L i o e p hX he 90
  have H : Hid (DAt w b g cap L i o e p) := h
  have bl := h.bl
  have gl := h.gl
  clear h
  go_enter Tryd.func20, Tryd.ntmps20
  go_wp2_with (go_at_call 38; refine (PA.out _ (H.out.alloc _)).mono ?_; rintro e w2 ⟨rfl, s2⟩; have s3 := ((Ds.refl H.out).alloc _).below s2; have p2 : roomAt w2 w.heap.size 4 = true := (roomAt_below s2 _ _ (by simp)).trans (roomTk_new _ _ _ _ (by simp)))
  exact ret_cell1 rfl rfl (loadTk_row (c := Tk.mk 0 ⟨#[]⟩ 0 0) (rowTk_put _ _ _ p2)) rfl ⟨rfl, s3.old bl gl _ (Nat.le_refl _) _⟩
set_option maxHeartbeats 1000000 in
set_option maxRecDepth 20000 in
theorem name_t (w : World) (b g cap : Nat) (L : List Tok) (i : Nat) (o p : Int) (h : DAt w b g cap L i o 0 p) (hk : (hd (L.drop i)).k ≠ 0) (hb : kdB 0 (hd (L.drop i)) 1 = true) :
    Calls Tryd.prog 130 #[.pointer (some ⟨b, 0, none⟩)] w fun e w' => e = .returned (.agg (hd (L.drop i)).tk.cells) ∧ Ds w w' b g cap L (i + 1) o 0 p := by
  have KA : Hid (∀ X, DAt X b g cap L i o 0 p → Calls Tryd.prog 21 #[.pointer (some ⟨b, 0, none⟩), .int .i64 1] X fun e w' => e = .returned (.bool true) ∧ Below X.heap.size X w') := fun X hX => by have := kind_d X b g cap L i o 0 p hX 1; rwa [hb] at this
  have MA : Hid (∀ X, DAt X b g cap L i o 0 p → Calls Tryd.prog 20 #[.pointer (some ⟨b, 0, none⟩), .bool true] X _) := fun X hX => must_t X b g cap L i o 0 p hX hk
  have H : Hid (DAt w b g cap L i o 0 p) := h
  have bl := h.bl
  have gl := h.gl
  clear h hb
  generalize (hd (L.drop i)).tk = x at MA ⊢
  go_enter Tryd.func130, Tryd.ntmps130
  go_wp2_with (first
    | (go_at_call 21; refine (KA.out _ (H.out.alloc _)).mono ?_; rintro e w1 ⟨rfl, hb1⟩; have s1 : Hid (Ds w w1 b g cap L i o 0 p) := ((Ds.refl H.out).alloc _).below hb1; have hs1 := hb1.size; simp at hs1; have p1 : roomAt w1 w.heap.size 4 = true := (roomAt_below hb1 _ _ (by simp)).trans (roomTk_new _ _ _ _ (by simp)))
    | (go_at_call 20; refine (MA.out _ s1.out.rd).mono ?_; rintro e w2 ⟨rfl, s2⟩; have p2 : roomAt w2 w.heap.size 4 = true := (s2.room (by omega) (by omega) 4).trans p1))
  exact ret_cell1 rfl rfl (loadTk_row (rowTk_put _ _ _ p2)) rfl ⟨rfl, (s1.out.next s2).old bl gl _ (Nat.le_refl _) _⟩
set_option maxHeartbeats 1000000 in
set_option maxRecDepth 20000 in
theorem name_f (w : World) (b g cap : Nat) (L : List Tok) (i : Nat) (o p : Int) (h : DAt w b g cap L i o 0 p) (hb : kdB 0 (hd (L.drop i)) 1 = false) :
    Calls Tryd.prog 130 #[.pointer (some ⟨b, 0, none⟩)] w fun e w' => e = .returned (.agg (Tk.mk 0 ⟨#[]⟩ 0 0).cells) ∧ Ds w w' b g cap L i o 90 ((hd (L.drop i)).p : Int) := by
  have KA : Hid (∀ X, DAt X b g cap L i o 0 p → Calls Tryd.prog 21 #[.pointer (some ⟨b, 0, none⟩), .int .i64 1] X fun e w' => e = .returned (.bool false) ∧ Below X.heap.size X w') := fun X hX => by have := kind_d X b g cap L i o 0 p hX 1; rwa [hb] at this
  have MA : Hid (∀ X, DAt X b g cap L i o 0 p → Calls Tryd.prog 20 #[.pointer (some ⟨b, 0, none⟩), .bool false] X _) := fun X hX => must_f_live X b g cap L i o p hX
  have H : Hid (DAt w b g cap L i o 0 p) := h
  have bl := h.bl
  have gl := h.gl
  clear h hb
  generalize ((hd (L.drop i)).p : Int) = x at MA ⊢
  go_enter Tryd.func130, Tryd.ntmps130
  go_wp2_with (first
    | (go_at_call 21; refine (KA.out _ (H.out.alloc _)).mono ?_; rintro e w1 ⟨rfl, hb1⟩; have s1 : Hid (Ds w w1 b g cap L i o 0 p) := ((Ds.refl H.out).alloc _).below hb1; have hs1 := hb1.size; simp at hs1; have p1 : roomAt w1 w.heap.size 4 = true := (roomAt_below hb1 _ _ (by simp)).trans (roomTk_new _ _ _ _ (by simp)))
    | (go_at_call 20; refine (MA.out _ s1.out.rd).mono ?_; rintro e w2 ⟨rfl, s2⟩; have p2 : roomAt w2 w.heap.size 4 = true := (s2.room (by omega) (by omega) 4).trans p1))
  exact ret_cell1 rfl rfl (loadTk_row (rowTk_put _ _ _ p2)) rfl ⟨rfl, (s1.out.next s2).old bl gl _ (Nat.le_refl _) _⟩
set_option maxHeartbeats 1000000 in
set_option maxRecDepth 20000 in
theorem name_d (w : World) (b g cap : Nat) (L : List Tok) (i : Nat) (o er p : Int) (h : DAt w b g cap L i o er p) (he : er ≠ 0) (hb : kdB er (hd (L.drop i)) 1 = false) :
    Calls Tryd.prog 130 #[.pointer (some ⟨b, 0, none⟩)] w fun e w' => e = .returned (.agg (Tk.mk 0 ⟨#[]⟩ 0 0).cells) ∧ Ds w w' b g cap L i o er p := by
  have KA : Hid (∀ X, DAt X b g cap L i o er p → Calls Tryd.prog 21 #[.pointer (some ⟨b, 0, none⟩), .int .i64 1] X fun e w' => e = .returned (.bool false) ∧ Below X.heap.size X w') := fun X hX => by have := kind_d X b g cap L i o er p hX 1; rwa [hb] at this
  have MA : Hid (∀ X, DAt X b g cap L i o er p → Calls Tryd.prog 20 #[.pointer (some ⟨b, 0, none⟩), .bool false] X _) := fun X hX => must_f_dead X b g cap L i o er p hX he
  have H : Hid (DAt w b g cap L i o er p) := h
  have bl := h.bl
  have gl := h.gl
  clear h hb
  go_enter Tryd.func130, Tryd.ntmps130
  go_wp2_with (first
    | (go_at_call 21; refine (KA.out _ (H.out.alloc _)).mono ?_; rintro e w1 ⟨rfl, hb1⟩; have s1 : Hid (Ds w w1 b g cap L i o er p) := ((Ds.refl H.out).alloc _).below hb1; have hs1 := hb1.size; simp at hs1; have p1 : roomAt w1 w.heap.size 4 = true := (roomAt_below hb1 _ _ (by simp)).trans (roomTk_new _ _ _ _ (by simp)))
    | (go_at_call 20; refine (MA.out _ s1.out.rd).mono ?_; rintro e w2 ⟨rfl, s2⟩; have p2 : roomAt w2 w.heap.size 4 = true := (s2.room (by omega) (by omega) 4).trans p1))
  exact ret_cell1 rfl rfl (loadTk_row (rowTk_put _ _ _ p2)) rfl ⟨rfl, (s1.out.next s2).old bl gl _ (Nat.le_refl _) _⟩
set_option maxHeartbeats 1000000 in
set_option maxRecDepth 20000 in
theorem mark_t (w : World) (b g cap : Nat) (L : List Tok) (i : Nat) (o p : Int) (h : DAt w b g cap L i o 0 p) (s : Bs) (hk : (hd (L.drop i)).k ≠ 0) (hb : sgB 0 (hd (L.drop i)) s = true) :
    Calls Tryd.prog 118 #[.pointer (some ⟨b, 0, none⟩), .string (bs s)] w fun e w' => e = .returned (.agg (hd (L.drop i)).tk.cells) ∧ Ds w w' b g cap L (i + 1) o 0 p := by
  have KA : Hid (∀ X, DAt X b g cap L i o 0 p → Calls Tryd.prog 76 #[.pointer (some ⟨b, 0, none⟩), .string (bs s)] X fun e w' => e = .returned (.bool true) ∧ Below X.heap.size X w') := fun X hX => by have := sign_d X b g cap L i o 0 p hX s; rwa [hb] at this
  have MA : Hid (∀ X, DAt X b g cap L i o 0 p → Calls Tryd.prog 20 #[.pointer (some ⟨b, 0, none⟩), .bool true] X _) := fun X hX => must_t X b g cap L i o 0 p hX hk
  have H : Hid (DAt w b g cap L i o 0 p) := h
  have bl := h.bl
  have gl := h.gl
  clear h hb
  generalize (hd (L.drop i)).tk = x at MA ⊢
  go_enter Tryd.func118, Tryd.ntmps118
  go_wp2_with (first
    | (go_at_call 76; refine (KA.out _ (H.out.alloc _)).mono ?_; rintro e w1 ⟨rfl, hb1⟩; have s1 : Hid (Ds w w1 b g cap L i o 0 p) := ((Ds.refl H.out).alloc _).below hb1; have hs1 := hb1.size; simp at hs1; have p1 : roomAt w1 w.heap.size 4 = true := (roomAt_below hb1 _ _ (by simp)).trans (roomTk_new _ _ _ _ (by simp)))
    | (go_at_call 20; refine (MA.out _ s1.out.rd).mono ?_; rintro e w2 ⟨rfl, s2⟩; have p2 : roomAt w2 w.heap.size 4 = true := (s2.room (by omega) (by omega) 4).trans p1))
  exact ret_cell1 rfl rfl (loadTk_row (rowTk_put _ _ _ p2)) rfl ⟨rfl, (s1.out.next s2).old bl gl _ (Nat.le_refl _) _⟩
set_option maxHeartbeats 1000000 in
set_option maxRecDepth 20000 in
theorem mark_f (w : World) (b g cap : Nat) (L : List Tok) (i : Nat) (o p : Int) (h : DAt w b g cap L i o 0 p) (s : Bs) (hb : sgB 0 (hd (L.drop i)) s = false) :
    Calls Tryd.prog 118 #[.pointer (some ⟨b, 0, none⟩), .string (bs s)] w fun e w' => e = .returned (.agg (Tk.mk 0 ⟨#[]⟩ 0 0).cells) ∧ Ds w w' b g cap L i o 90 ((hd (L.drop i)).p : Int) := by
  have KA : Hid (∀ X, DAt X b g cap L i o 0 p → Calls Tryd.prog 76 #[.pointer (some ⟨b, 0, none⟩), .string (bs s)] X fun e w' => e = .returned (.bool false) ∧ Below X.heap.size X w') := fun X hX => by have := sign_d X b g cap L i o 0 p hX s; rwa [hb] at this
  have MA : Hid (∀ X, DAt X b g cap L i o 0 p → Calls Tryd.prog 20 #[.pointer (some ⟨b, 0, none⟩), .bool false] X _) := fun X hX => must_f_live X b g cap L i o p hX
  have H : Hid (DAt w b g cap L i o 0 p) := h
  have bl := h.bl
  have gl := h.gl
  clear h hb
  generalize ((hd (L.drop i)).p : Int) = x at MA ⊢
  go_enter Tryd.func118, Tryd.ntmps118
  go_wp2_with (first
    | (go_at_call 76; refine (KA.out _ (H.out.alloc _)).mono ?_; rintro e w1 ⟨rfl, hb1⟩; have s1 : Hid (Ds w w1 b g cap L i o 0 p) := ((Ds.refl H.out).alloc _).below hb1; have hs1 := hb1.size; simp at hs1; have p1 : roomAt w1 w.heap.size 4 = true := (roomAt_below hb1 _ _ (by simp)).trans (roomTk_new _ _ _ _ (by simp)))
    | (go_at_call 20; refine (MA.out _ s1.out.rd).mono ?_; rintro e w2 ⟨rfl, s2⟩; have p2 : roomAt w2 w.heap.size 4 = true := (s2.room (by omega) (by omega) 4).trans p1))
  exact ret_cell1 rfl rfl (loadTk_row (rowTk_put _ _ _ p2)) rfl ⟨rfl, (s1.out.next s2).old bl gl _ (Nat.le_refl _) _⟩
set_option maxHeartbeats 1000000 in
set_option maxRecDepth 20000 in
theorem mark_d (w : World) (b g cap : Nat) (L : List Tok) (i : Nat) (o er p : Int) (h : DAt w b g cap L i o er p) (s : Bs) (he : er ≠ 0) (hb : sgB er (hd (L.drop i)) s = false) :
    Calls Tryd.prog 118 #[.pointer (some ⟨b, 0, none⟩), .string (bs s)] w fun e w' => e = .returned (.agg (Tk.mk 0 ⟨#[]⟩ 0 0).cells) ∧ Ds w w' b g cap L i o er p := by
  have KA : Hid (∀ X, DAt X b g cap L i o er p → Calls Tryd.prog 76 #[.pointer (some ⟨b, 0, none⟩), .string (bs s)] X fun e w' => e = .returned (.bool false) ∧ Below X.heap.size X w') := fun X hX => by have := sign_d X b g cap L i o er p hX s; rwa [hb] at this
  have MA : Hid (∀ X, DAt X b g cap L i o er p → Calls Tryd.prog 20 #[.pointer (some ⟨b, 0, none⟩), .bool false] X _) := fun X hX => must_f_dead X b g cap L i o er p hX he
  have H : Hid (DAt w b g cap L i o er p) := h
  have bl := h.bl
  have gl := h.gl
  clear h hb
  go_enter Tryd.func118, Tryd.ntmps118
  go_wp2_with (first
    | (go_at_call 76; refine (KA.out _ (H.out.alloc _)).mono ?_; rintro e w1 ⟨rfl, hb1⟩; have s1 : Hid (Ds w w1 b g cap L i o er p) := ((Ds.refl H.out).alloc _).below hb1; have hs1 := hb1.size; simp at hs1; have p1 : roomAt w1 w.heap.size 4 = true := (roomAt_below hb1 _ _ (by simp)).trans (roomTk_new _ _ _ _ (by simp)))
    | (go_at_call 20; refine (MA.out _ s1.out.rd).mono ?_; rintro e w2 ⟨rfl, s2⟩; have p2 : roomAt w2 w.heap.size 4 = true := (s2.room (by omega) (by omega) 4).trans p1))
  exact ret_cell1 rfl rfl (loadTk_row (rowTk_put _ _ _ p2)) rfl ⟨rfl, (s1.out.next s2).old bl gl _ (Nat.le_refl _) _⟩
set_option maxHeartbeats 1000000 in
set_option maxRecDepth 20000 in
theorem opens_t (w : World) (b g cap : Nat) (L : List Tok) (i o : Nat) (h : DAt w b g cap L i (o : Int) 0 0) (ho : o < 24) (hk : (hd (L.drop i)).k ≠ 0) :
    Calls Tryd.prog 98 #[.pointer (some ⟨b, 0, none⟩), .int .i64 1] w fun e w' => e = .returned (.agg (hd (L.drop i)).tk.cells) ∧ Ds w w' b g cap L (i + 1) ((o : Int) + 1) 0 0 := by
  have PA : Hid (∀ X, DAt X b g cap L i ((o : Int) + 1) 0 0 → Calls Tryd.prog 36 #[.pointer (some ⟨b, 0, none⟩)] X _) := fun X hX => next_d X b g cap L i _ 0 0 hX hk
  have H : Hid (DAt w b g cap L i (o : Int) 0 0) := h
  have c2 := h.c2
  have fz := h.fz
  have bl := h.bl
  have gl := h.gl
  have hn1 : w.heap.size ≠ b := by omega
  have k1 : decide ((24 : Int) < (o : Int) + 1) = false := by simp; omega
  have R0 : Hid (Ds w (w.setCell ⟨b, 2, none⟩ (.int .i64 ((o : Int) + 1))) b g cap L i ((o : Int) + 1) 0 0) := (Ds.refl h).setO _
  clear h hk
  generalize (hd (L.drop i)).tk = x at PA ⊢
  go_enter Tryd.func98, Tryd.ntmps98
  go_wp2_with (go_at_call 36; refine (PA.out _ (R0.out.alloc _).rd).mono ?_; rintro e w2 ⟨rfl, s2⟩; have s3 := (R0.out.alloc _).next s2; have p2 : roomAt w2 w.heap.size 4 = true := (s2.room (by simp) (by omega) 4).trans (roomTk_new _ _ _ _ (by simp)))
  exact ret_cell1 rfl rfl (loadTk_row (c := x) (rowTk_put _ _ _ p2)) rfl ⟨rfl, s3.old bl gl _ (Nat.le_refl _) _⟩
set_option maxHeartbeats 1000000 in
set_option maxRecDepth 20000 in
theorem opens_f (w : World) (b g cap : Nat) (L : List Tok) (i : Nat) (h : DAt w b g cap L i 24 0 0) :
    Calls Tryd.prog 98 #[.pointer (some ⟨b, 0, none⟩), .int .i64 1] w fun e w' => e = .returned (.agg (Tk.mk 0 ⟨#[]⟩ 0 0).cells) ∧ Ds w w' b g cap L i 24 91 ((hd (L.drop i)).p : Int) := by
  have PA : Hid (∀ X, DAt X b g cap L i 24 0 0 → Calls Tryd.prog 38 #[.pointer (some ⟨b, 0, none⟩), .int .i64 91] X _) := fun X hX => wrong_live X b g cap L i 24 0 hX 91
  have H : Hid (DAt w b g cap L i 24 0 0) := h
  have c2 := h.c2
  have bl := h.bl
  have gl := h.gl
  clear h
  go_enter Tryd.func98, Tryd.ntmps98
  go_wp2_with (go_at_call 38; refine (PA.out _ (H.out.alloc _)).mono ?_; rintro e w2 ⟨rfl, s2⟩; have s3 := ((Ds.refl H.out).alloc _).next s2; have p2 : roomAt w2 w.heap.size 4 = true := (s2.room (by simp) (by omega) 4).trans (roomTk_new _ _ _ _ (by simp)))
  exact ret_cell1 rfl rfl (loadTk_row (rowTk_put _ _ _ p2)) rfl ⟨rfl, s3.old bl gl _ (Nat.le_refl _) _⟩
end Go.Proofs.YtejcjhoojpoamaaDoor
