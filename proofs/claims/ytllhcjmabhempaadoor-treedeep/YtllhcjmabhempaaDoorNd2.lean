/-
  Layer 9: a sign between two operands, terms and factors.
-/
import Derived.Test.YtllhcjmabhempaaDoorNds
import Derived.Deep.DeepCutAuto
namespace Go.Proofs.YtllhcjmabhempaaDoor
set_option linter.unusedVariables false
set_option linter.unusedSimpArgs false
open Go.ChangeShapes Go.WideShapes Go.ChangeAt Go.RowKit


attribute [local go_sem] fieldTk0 fieldTk3
attribute [local go_sem ↓] bslNd_seal
attribute [local go_sem] bslNd1_run bslNd2_run

set_option maxHeartbeats 4000000 in
set_option maxRecDepth 20000 in
theorem binary_ok_term (w : World) (b g cap : Nat) (L : List Tok) (i o : Nat) (h : RdAt w b g cap L i o) (hk : (hd (L.drop i)).k ≠ 0) (c : Nc) (P : Nat → Prop) (hP1 : ∀ x, P x → x ≠ b) (hP2 : ∀ x, w.heap.size ≤ x → P x) (n1 n2 : Nd) (t2 : List Tok) (hc : NdAt w P c n1)
    (hF : ∀ X, RdAt X b g cap L (i + 1) o → Calls Tryd.prog 62 #[.pointer (some ⟨b, 0, none⟩)] X (PostN X b g cap L (i + 1) o (.ok n2 t2))) :
    Calls Tryd.prog 45 #[.pointer (some ⟨b, 0, none⟩), .agg c.cells, .func (.func 62) #[.pointer (some ⟨b, 0, none⟩)] #[]] w fun e w' => ∃ c' i', e = .returned (.agg (Nc.cells c')) ∧ t2 = L.drop i' ∧ i + 1 < i' ∧ St w w' b g cap L i' o ∧ NdAt w' P c' (binN (hd (L.drop i)) n1 n2) := by
  have PA : Hid (∀ X, RdAt X b g cap L i o → Calls Tryd.prog 52 #[.pointer (some ⟨b, 0, none⟩)] X _) := fun X hX => pass_any X b g cap L i o hX hk
  have H : Hid (RdAt w b g cap L i o) := h
  have HF : Hid (∀ X, RdAt X b g cap L (i + 1) o → Calls Tryd.prog 62 #[.pointer (some ⟨b, 0, none⟩)] X (PostN X b g cap L (i + 1) o (.ok n2 t2))) := hF
  have HC : Hid (NdAt w P c n1) := hc
  have bl := h.bl
  have gl := h.gl
  clear h hk hF hc
  obtain ⟨tk, htk⟩ : ∃ tk, tk = hd (L.drop i) := ⟨_, rfl⟩
  rw [← htk] at PA ⊢
  clear htk
  go_enter Tryd.func45, Tryd.ntmps45
  go_upto_region 2 with (go_at_call 52; refine (PA.out _ ((H.out.alloc _).alloc _)).mono ?_; rintro e w2 ⟨rfl, s2⟩)
  have S2 : St w w2 b g cap L (i + 1) o := (((St.refl H.out).alloc _).alloc _).next s2
  have hs2 := s2.size
  simp at hs2
  have r4 : rowAt w2 w.heap.size = some c.cells := (s2.row (by simp; omega) (by omega)).trans ((rowAt_old _ _ _ (by simp)).trans (rowAt_at _ _ _ _ _ rfl))
  have p6 : roomAt w2 (w.heap.size + 1) 6 = true := (s2.room (by simp) (by omega) 6).trans (roomNd_new _ _ _ _ (by simp))
  have S3 := (S2.alloc (.cells tk.tk.cells 41)).drew
  have hq7 : w2.heap.size ≠ b := by omega
  have hq4 : w.heap.size ≠ b := by omega
  go_cut [8] (fun s8 Y => ∃ q, s8 = .pointer (some ⟨q, 0, none⟩) ∧ BinAt w Y b g cap L o P tk n1 n2 t2 i w2.heap.size q)
  case first =>
    refine wp_region_held_drew (S := (fun X => rowAt X w2.heap.size = some tk.tk.cells ∧ rowAt X w.heap.size = some c.cells)) (by kernel_rfl) ⟨(rowAt_drew _ _).trans (rowAt_at _ _ _ _ _ rfl), (rowAt_drew _ _).trans ((rowAt_old _ _ _ (by omega)).trans r4)⟩ (fun hHeld => ?_)
    refine wpAnyH_take (i := 0) (v := ?_) rfl (by kernel_rfl) (by kernel_rfl) (by kernel_rfl) (fun _ _ _ h => h) (Or.inl ⟨by rfl, ?y0⟩) hHeld ?r0
    case y0 => (intro w2 hSw; (try dsimp only at hSw); go_simp; try rfl)
    simp only [Act.put, List.setIfInBounds_toArray, List.set_cons_zero, List.set_cons_succ]
    refine wpAnyH_take (i := 1) (v := ?_) rfl (by kernel_rfl) (by kernel_rfl) (by kernel_rfl) (fun _ _ _ h => h) (Or.inl ⟨by rfl, ?y1⟩) hHeld ?r1
    case y1 => (intro w2 hSw; (try dsimp only at hSw); have c3 := rowAt_cell hSw.1 3; go_simp; try rfl)
    simp only [Act.put, List.setIfInBounds_toArray, List.set_cons_zero, List.set_cons_succ]
    refine wpAnyH_take (i := 2) (v := ?_) rfl (by kernel_rfl) (by kernel_rfl) (by kernel_rfl) (fun _ _ _ h => h) (Or.inl ⟨by rfl, ?y2⟩) hHeld ?r2
    case y2 => (intro w2 hSw; (try dsimp only at hSw); go_simp; try rfl)
    simp only [Act.put, List.setIfInBounds_toArray, List.set_cons_zero, List.set_cons_succ]
    refine wpAnyH_take (i := 3) (v := ?_) rfl (by kernel_rfl) (by kernel_rfl) (by kernel_rfl) (fun _ _ _ h => h) (Or.inl ⟨by rfl, ?y3⟩) hHeld ?r3
    case y3 => (intro w2 hSw; (try dsimp only at hSw); go_simp; try rfl)
    simp only [Act.put, List.setIfInBounds_toArray, List.set_cons_zero, List.set_cons_succ]
    refine wpAnyH_ready (rs := [4, 7]) (by kernel_rfl) (by simp) ?_
    refine .cons rfl (fun K hK => ?_) (.cons rfl (fun K hK => ?_) .nil)
    · go_simp
      go_wp2_with (go_at_call 62; refine (HF.out _ S3.rd).mono ?_; rintro e w5 ⟨c5, i5, rfl, ht5, hi5, s5, n5⟩)
      have g1 : ((w2.alloc (.cells tk.tk.cells 41)).drew).grownBy (w5) (some b) := s5.gb
      have z5 := g1.size
      simp at z5
      have hh2 := hold_gb hHeld g1 hq7 hq4
      refine hK.out _ _ hh2 (fun _ => ?_)
      clear hK K
      have S3 := S3.next s5
      refine wpAnyH_ready (rs := [5, 7]) (by kernel_rfl) (by simp) ?_
      refine .cons rfl (fun K hK => ?_) (.cons rfl (fun K hK => ?_) .nil)
      · go_simp
        have g4 : (w5).grownBy ((w5).alloc (.cells (c.cells ++ c5.cells) 31)) (some b) := gb_of_below (by go_grown) b
        have hh5 := hold_gb hh2 g4 hq7 hq4
        refine hK.out _ _ hh5 (fun _ => ?_)
        clear hK K
        have S6 := S3.alloc (.cells (c.cells ++ c5.cells) 31)
        refine wpAnyH_ready (rs := [6, 7]) (by kernel_rfl) (by simp) ?_
        refine .cons rfl (fun K hK => ?_) (.cons rfl (fun K hK => ?_) .nil)
        · go_simp
          go_wp2_with (go_at_call 59; refine (node_any _ _ _ _ _ _).mono ?_; rintro e w6 ⟨rfl, hb6⟩)
          have g7 : ((w5).alloc (.cells (c.cells ++ c5.cells) 31)).grownBy (w6) (some b) := gb_of_below hb6 b
          have z6 := g7.size
          simp at z6
          have hh8 := hold_gb hh5 g7 hq7 hq4
          refine hK.out _ _ hh8 (fun _ => ?_)
          clear hK K
          have S9 := S6.below hb6
          refine wpAnyH_ready (rs := [7]) (by kernel_rfl) (by simp) ?_
          refine .cons rfl (fun K hK => ?_) .nil
          go_simp
          have g10 : (w6).grownBy ((w6).alloc (.cells (⟨0, ⟨#[]⟩, 0, false, none, 0, 0, 0⟩ : Nc).cells 31)) (some b) := gb_of_below (by go_grown) b
          have hh11 := hold_gb hh8 g10 hq7 hq4
          refine hK.out _ _ hh11 (fun _ => ?_)
          clear hK K
          have S12 := S9.alloc (.cells (⟨0, ⟨#[]⟩, 0, false, none, 0, 0, 0⟩ : Nc).cells 31)
          refine wpAnyH_ready (rs := [8]) (by kernel_rfl) (by simp) ?_
          refine .cons rfl (fun K hK => ?_) .nil
          have rm13 : roomAt ((w6).alloc (.cells (⟨0, ⟨#[]⟩, 0, false, none, 0, 0, 0⟩ : Nc).cells 31)) (w6.heap.size) 6 = true := roomNd_new _ _ _ _ (by simp)
          have n8 : w.heap.size + 1 < w6.heap.size := by first | omega | (simp; done) | (simp; omega)
          have d7 : w2.heap.size ≠ w6.heap.size := by first | omega | (simp; done) | (simp; omega)
          have d4 : w.heap.size ≠ w6.heap.size := by omega
          have d6 : w.heap.size + 1 ≠ w6.heap.size := by omega
          have db : w5.heap.size ≠ w6.heap.size := by first | omega | (simp; done) | (simp; omega)
          have hY : rowAt (putRow ((w6).alloc (.cells (⟨0, ⟨#[]⟩, 0, false, none, 0, 0, 0⟩ : Nc).cells 31)) (w6.heap.size) (⟨37, ⟨#[]⟩, 0, false, some ⟨w5.heap.size, 0, none⟩, 2, 2, (tk.p : Int)⟩ : Nc).cells) w2.heap.size = some tk.tk.cells ∧ rowAt (putRow ((w6).alloc (.cells (⟨0, ⟨#[]⟩, 0, false, none, 0, 0, 0⟩ : Nc).cells 31)) (w6.heap.size) (⟨37, ⟨#[]⟩, 0, false, some ⟨w5.heap.size, 0, none⟩, 2, 2, (tk.p : Int)⟩ : Nc).cells) w.heap.size = some c.cells := ⟨(row_far _ _ _ _ d7).trans hh11.1, (row_far _ _ _ _ d4).trans hh11.2⟩
          have SY : St w (putRow ((w6).alloc (.cells (⟨0, ⟨#[]⟩, 0, false, none, 0, 0, 0⟩ : Nc).cells 31)) (w6.heap.size) (⟨37, ⟨#[]⟩, 0, false, some ⟨w5.heap.size, 0, none⟩, 2, 2, (tk.p : Int)⟩ : Nc).cells) b g cap L i5 o := S12.old bl gl _ (by omega) _
          have m6 : roomAt (putRow ((w6).alloc (.cells (⟨0, ⟨#[]⟩, 0, false, none, 0, 0, 0⟩ : Nc).cells 31)) (w6.heap.size) (⟨37, ⟨#[]⟩, 0, false, some ⟨w5.heap.size, 0, none⟩, 2, 2, (tk.p : Int)⟩ : Nc).cells) (w.heap.size + 1) 6 = true := (room_far _ _ _ _ _ d6).trans ((room_gb (gb_trans (gb_trans (gb_trans g1 g4) g7) g10) (by first | omega | (simp; done) | (simp; omega)) (by omega) 6).trans ((roomAt_drew _ _ _).trans ((roomAt_old _ _ _ _ (by omega)).trans p6)))
          have mb : (putRow ((w6).alloc (.cells (⟨0, ⟨#[]⟩, 0, false, none, 0, 0, 0⟩ : Nc).cells 31)) (w6.heap.size) (⟨37, ⟨#[]⟩, 0, false, some ⟨w5.heap.size, 0, none⟩, 2, 2, (tk.p : Int)⟩ : Nc).cells).heap[w5.heap.size]? = some (.cells (c.cells ++ c5.cells) 31 (0, 0)) := (put_far _ _ _ _ db).trans ((((gb_trans g7 g10)).block (w5.heap.size) (by first | omega | (simp; done) | (simp; omega)) (by intro e; injection e with e; first | omega | (simp at e; omega))).trans (heap_new' _ _ (by simp)))
          have gw : w.grownBy ((w6).alloc (.cells (⟨0, ⟨#[]⟩, 0, false, none, 0, 0, 0⟩ : Nc).cells 31)) (some b) := S12.gb
          have m1 : NdAt (putRow ((w6).alloc (.cells (⟨0, ⟨#[]⟩, 0, false, none, 0, 0, 0⟩ : Nc).cells 31)) (w6.heap.size) (⟨37, ⟨#[]⟩, 0, false, some ⟨w5.heap.size, 0, none⟩, 2, 2, (tk.p : Int)⟩ : Nc).cells) (fun x => P x ∧ x ≠ w6.heap.size ∧ x ≠ w.heap.size + 1) c n1 := HC.out.keep (fun x hx hl => ⟨hx, by omega, by omega⟩) (by rw [size_put]; exact gw.size) (fun x hx hl => (put_far _ _ _ _ (by omega)).trans (gw.block x hl (by intro e; injection e with e; exact hP1 x hx e)))
          have m2 : NdAt (putRow ((w6).alloc (.cells (⟨0, ⟨#[]⟩, 0, false, none, 0, 0, 0⟩ : Nc).cells 31)) (w6.heap.size) (⟨37, ⟨#[]⟩, 0, false, some ⟨w5.heap.size, 0, none⟩, 2, 2, (tk.p : Int)⟩ : Nc).cells) (fun x => P x ∧ x ≠ w6.heap.size ∧ x ≠ w.heap.size + 1) c5 n2 := n5.keep (fun x hx hl => ⟨hP2 x (by first | omega | (simp at hx; omega)), by first | omega | (simp at hx ⊢; omega), by first | omega | (simp at hx; omega)⟩) (by rw [size_put]; exact ((gb_trans (gb_trans g4 g7) g10)).size) (fun x hx hl => (put_far _ _ _ _ (by first | omega | (simp at hx ⊢; omega))).trans (((gb_trans (gb_trans g4 g7) g10)).block x hl (by intro e; injection e with e; first | omega | (simp at hx; omega))))
          have FIN : Hid (BinAt w (putRow ((w6).alloc (.cells (⟨0, ⟨#[]⟩, 0, false, none, 0, 0, 0⟩ : Nc).cells 31)) (w6.heap.size) (⟨37, ⟨#[]⟩, 0, false, some ⟨w5.heap.size, 0, none⟩, 2, 2, (tk.p : Int)⟩ : Nc).cells) b g cap L o P tk n1 n2 t2 i w2.heap.size (w6.heap.size)) := ⟨w5.heap.size, i5, SY, ht5, hi5, rowNd_put _ _ _ rm13, room_keep rm13 _ rfl, m6, hY.1, n8, bin_made ⟨hP2 _ (by first | omega | (simp; done) | (simp; omega)), db, by first | omega | (simp; done) | (simp; omega)⟩ mb m1 m2⟩
          have HY : Hid (rowAt (putRow ((w6).alloc (.cells (⟨0, ⟨#[]⟩, 0, false, none, 0, 0, 0⟩ : Nc).cells 31)) (w6.heap.size) (⟨37, ⟨#[]⟩, 0, false, some ⟨w5.heap.size, 0, none⟩, 2, 2, (tk.p : Int)⟩ : Nc).cells) w2.heap.size = some tk.tk.cells ∧ rowAt (putRow ((w6).alloc (.cells (⟨0, ⟨#[]⟩, 0, false, none, 0, 0, 0⟩ : Nc).cells 31)) (w6.heap.size) (⟨37, ⟨#[]⟩, 0, false, some ⟨w5.heap.size, 0, none⟩, 2, 2, (tk.p : Int)⟩ : Nc).cells) w.heap.size = some c.cells) := hY
          clear SY m6 mb gw m1 m2 hY n8 d7 d4 d6 db n5 s5 ht5 hi5 g1 g4 g7 g10 S12
          rw [putNd_new _ _ _ _ _ (by simp)] at FIN HY
          go_simp
          refine hK.out _ _ HY.out (fun _ => ?_)
          clear hK K
          refine wpAnyH_done (by kernel_rfl) ?_ _
          go_wp2_with fail
          go_meet
          exact ⟨_, rfl, FIN.out⟩
        · go_simp
          have g14 : ((w5).alloc (.cells (c.cells ++ c5.cells) 31)).grownBy (((w5).alloc (.cells (c.cells ++ c5.cells) 31)).alloc (.cells (⟨0, ⟨#[]⟩, 0, false, none, 0, 0, 0⟩ : Nc).cells 31)) (some b) := gb_of_below (by go_grown) b
          have hh15 := hold_gb hh5 g14 hq7 hq4
          refine hK.out _ _ hh15 (fun _ => ?_)
          clear hK K
          have S16 := S6.alloc (.cells (⟨0, ⟨#[]⟩, 0, false, none, 0, 0, 0⟩ : Nc).cells 31)
          refine wpAnyH_ready (rs := [6]) (by kernel_rfl) (by simp) ?_
          refine .cons rfl (fun K hK => ?_) .nil
          go_simp
          go_wp2_with (go_at_call 59; refine (node_any _ _ _ _ _ _).mono ?_; rintro e w6 ⟨rfl, hb6⟩)
          have g17 : (((w5).alloc (.cells (c.cells ++ c5.cells) 31)).alloc (.cells (⟨0, ⟨#[]⟩, 0, false, none, 0, 0, 0⟩ : Nc).cells 31)).grownBy (w6) (some b) := gb_of_below hb6 b
          have z6 := g17.size
          simp at z6
          have hh18 := hold_gb hh15 g17 hq7 hq4
          refine hK.out _ _ hh18 (fun _ => ?_)
          clear hK K
          have S19 := S16.below hb6
          refine wpAnyH_ready (rs := [8]) (by kernel_rfl) (by simp) ?_
          refine .cons rfl (fun K hK => ?_) .nil
          have rm20 : roomAt (w6) (w5.heap.size + 1) 6 = true := (room_gb g17 (by first | omega | (simp; done) | (simp; omega)) (by first | omega | (simp; done) | (simp; omega)) 6).trans (roomNd_new _ _ _ _ (by simp))
          have n8 : w.heap.size + 1 < w5.heap.size + 1 := by first | omega | (simp; done) | (simp; omega)
          have d7 : w2.heap.size ≠ w5.heap.size + 1 := by first | omega | (simp; done) | (simp; omega)
          have d4 : w.heap.size ≠ w5.heap.size + 1 := by omega
          have d6 : w.heap.size + 1 ≠ w5.heap.size + 1 := by omega
          have db : w5.heap.size ≠ w5.heap.size + 1 := by first | omega | (simp; done) | (simp; omega)
          have hY : rowAt (putRow (w6) (w5.heap.size + 1) (⟨37, ⟨#[]⟩, 0, false, some ⟨w5.heap.size, 0, none⟩, 2, 2, (tk.p : Int)⟩ : Nc).cells) w2.heap.size = some tk.tk.cells ∧ rowAt (putRow (w6) (w5.heap.size + 1) (⟨37, ⟨#[]⟩, 0, false, some ⟨w5.heap.size, 0, none⟩, 2, 2, (tk.p : Int)⟩ : Nc).cells) w.heap.size = some c.cells := ⟨(row_far _ _ _ _ d7).trans hh18.1, (row_far _ _ _ _ d4).trans hh18.2⟩
          have SY : St w (putRow (w6) (w5.heap.size + 1) (⟨37, ⟨#[]⟩, 0, false, some ⟨w5.heap.size, 0, none⟩, 2, 2, (tk.p : Int)⟩ : Nc).cells) b g cap L i5 o := S19.old bl gl _ (by omega) _
          have m6 : roomAt (putRow (w6) (w5.heap.size + 1) (⟨37, ⟨#[]⟩, 0, false, some ⟨w5.heap.size, 0, none⟩, 2, 2, (tk.p : Int)⟩ : Nc).cells) (w.heap.size + 1) 6 = true := (room_far _ _ _ _ _ d6).trans ((room_gb (gb_trans (gb_trans (gb_trans g1 g4) g14) g17) (by first | omega | (simp; done) | (simp; omega)) (by omega) 6).trans ((roomAt_drew _ _ _).trans ((roomAt_old _ _ _ _ (by omega)).trans p6)))
          have mb : (putRow (w6) (w5.heap.size + 1) (⟨37, ⟨#[]⟩, 0, false, some ⟨w5.heap.size, 0, none⟩, 2, 2, (tk.p : Int)⟩ : Nc).cells).heap[w5.heap.size]? = some (.cells (c.cells ++ c5.cells) 31 (0, 0)) := (put_far _ _ _ _ db).trans ((((gb_trans g14 g17)).block (w5.heap.size) (by first | omega | (simp; done) | (simp; omega)) (by intro e; injection e with e; first | omega | (simp at e; omega))).trans (heap_new' _ _ (by simp)))
          have gw : w.grownBy (w6) (some b) := S19.gb
          have m1 : NdAt (putRow (w6) (w5.heap.size + 1) (⟨37, ⟨#[]⟩, 0, false, some ⟨w5.heap.size, 0, none⟩, 2, 2, (tk.p : Int)⟩ : Nc).cells) (fun x => P x ∧ x ≠ w5.heap.size + 1 ∧ x ≠ w.heap.size + 1) c n1 := HC.out.keep (fun x hx hl => ⟨hx, by omega, by omega⟩) (by rw [size_put]; exact gw.size) (fun x hx hl => (put_far _ _ _ _ (by omega)).trans (gw.block x hl (by intro e; injection e with e; exact hP1 x hx e)))
          have m2 : NdAt (putRow (w6) (w5.heap.size + 1) (⟨37, ⟨#[]⟩, 0, false, some ⟨w5.heap.size, 0, none⟩, 2, 2, (tk.p : Int)⟩ : Nc).cells) (fun x => P x ∧ x ≠ w5.heap.size + 1 ∧ x ≠ w.heap.size + 1) c5 n2 := n5.keep (fun x hx hl => ⟨hP2 x (by first | omega | (simp at hx; omega)), by first | omega | (simp at hx ⊢; omega), by first | omega | (simp at hx; omega)⟩) (by rw [size_put]; exact ((gb_trans (gb_trans g4 g14) g17)).size) (fun x hx hl => (put_far _ _ _ _ (by first | omega | (simp at hx ⊢; omega))).trans (((gb_trans (gb_trans g4 g14) g17)).block x hl (by intro e; injection e with e; first | omega | (simp at hx; omega))))
          have FIN : Hid (BinAt w (putRow (w6) (w5.heap.size + 1) (⟨37, ⟨#[]⟩, 0, false, some ⟨w5.heap.size, 0, none⟩, 2, 2, (tk.p : Int)⟩ : Nc).cells) b g cap L o P tk n1 n2 t2 i w2.heap.size (w5.heap.size + 1)) := ⟨w5.heap.size, i5, SY, ht5, hi5, rowNd_put _ _ _ rm20, room_keep rm20 _ rfl, m6, hY.1, n8, bin_made ⟨hP2 _ (by first | omega | (simp; done) | (simp; omega)), db, by first | omega | (simp; done) | (simp; omega)⟩ mb m1 m2⟩
          have HY : Hid (rowAt (putRow (w6) (w5.heap.size + 1) (⟨37, ⟨#[]⟩, 0, false, some ⟨w5.heap.size, 0, none⟩, 2, 2, (tk.p : Int)⟩ : Nc).cells) w2.heap.size = some tk.tk.cells ∧ rowAt (putRow (w6) (w5.heap.size + 1) (⟨37, ⟨#[]⟩, 0, false, some ⟨w5.heap.size, 0, none⟩, 2, 2, (tk.p : Int)⟩ : Nc).cells) w.heap.size = some c.cells) := hY
          clear SY m6 mb gw m1 m2 hY n8 d7 d4 d6 db n5 s5 ht5 hi5 g1 g4 g14 g17 S19
          go_simp
          refine hK.out _ _ HY.out (fun _ => ?_)
          clear hK K
          refine wpAnyH_done (by kernel_rfl) ?_ _
          go_wp2_with fail
          go_meet
          exact ⟨_, rfl, FIN.out⟩
      · go_simp
        have g21 : (w5).grownBy ((w5).alloc (.cells (⟨0, ⟨#[]⟩, 0, false, none, 0, 0, 0⟩ : Nc).cells 31)) (some b) := gb_of_below (by go_grown) b
        have hh22 := hold_gb hh2 g21 hq7 hq4
        refine hK.out _ _ hh22 (fun _ => ?_)
        clear hK K
        have S23 := S3.alloc (.cells (⟨0, ⟨#[]⟩, 0, false, none, 0, 0, 0⟩ : Nc).cells 31)
        refine wpAnyH_ready (rs := [5]) (by kernel_rfl) (by simp) ?_
        refine .cons rfl (fun K hK => ?_) .nil
        go_simp
        have g24 : ((w5).alloc (.cells (⟨0, ⟨#[]⟩, 0, false, none, 0, 0, 0⟩ : Nc).cells 31)).grownBy (((w5).alloc (.cells (⟨0, ⟨#[]⟩, 0, false, none, 0, 0, 0⟩ : Nc).cells 31)).alloc (.cells (c.cells ++ c5.cells) 31)) (some b) := gb_of_below (by go_grown) b
        have hh25 := hold_gb hh22 g24 hq7 hq4
        refine hK.out _ _ hh25 (fun _ => ?_)
        clear hK K
        have S26 := S23.alloc (.cells (c.cells ++ c5.cells) 31)
        refine wpAnyH_ready (rs := [6]) (by kernel_rfl) (by simp) ?_
        refine .cons rfl (fun K hK => ?_) .nil
        go_simp
        go_wp2_with (go_at_call 59; refine (node_any _ _ _ _ _ _).mono ?_; rintro e w6 ⟨rfl, hb6⟩)
        have g27 : (((w5).alloc (.cells (⟨0, ⟨#[]⟩, 0, false, none, 0, 0, 0⟩ : Nc).cells 31)).alloc (.cells (c.cells ++ c5.cells) 31)).grownBy (w6) (some b) := gb_of_below hb6 b
        have z6 := g27.size
        simp at z6
        have hh28 := hold_gb hh25 g27 hq7 hq4
        refine hK.out _ _ hh28 (fun _ => ?_)
        clear hK K
        have S29 := S26.below hb6
        refine wpAnyH_ready (rs := [8]) (by kernel_rfl) (by simp) ?_
        refine .cons rfl (fun K hK => ?_) .nil
        have rm30 : roomAt (w6) (w5.heap.size) 6 = true := (room_gb (gb_trans g24 g27) (by first | omega | (simp; done) | (simp; omega)) (by first | omega | (simp; done) | (simp; omega)) 6).trans (roomNd_new _ _ _ _ (by simp))
        have n8 : w.heap.size + 1 < w5.heap.size := by first | omega | (simp; done) | (simp; omega)
        have d7 : w2.heap.size ≠ w5.heap.size := by first | omega | (simp; done) | (simp; omega)
        have d4 : w.heap.size ≠ w5.heap.size := by omega
        have d6 : w.heap.size + 1 ≠ w5.heap.size := by omega
        have db : w5.heap.size + 1 ≠ w5.heap.size := by first | omega | (simp; done) | (simp; omega)
        have hY : rowAt (putRow (w6) (w5.heap.size) (⟨37, ⟨#[]⟩, 0, false, some ⟨w5.heap.size + 1, 0, none⟩, 2, 2, (tk.p : Int)⟩ : Nc).cells) w2.heap.size = some tk.tk.cells ∧ rowAt (putRow (w6) (w5.heap.size) (⟨37, ⟨#[]⟩, 0, false, some ⟨w5.heap.size + 1, 0, none⟩, 2, 2, (tk.p : Int)⟩ : Nc).cells) w.heap.size = some c.cells := ⟨(row_far _ _ _ _ d7).trans hh28.1, (row_far _ _ _ _ d4).trans hh28.2⟩
        have SY : St w (putRow (w6) (w5.heap.size) (⟨37, ⟨#[]⟩, 0, false, some ⟨w5.heap.size + 1, 0, none⟩, 2, 2, (tk.p : Int)⟩ : Nc).cells) b g cap L i5 o := S29.old bl gl _ (by omega) _
        have m6 : roomAt (putRow (w6) (w5.heap.size) (⟨37, ⟨#[]⟩, 0, false, some ⟨w5.heap.size + 1, 0, none⟩, 2, 2, (tk.p : Int)⟩ : Nc).cells) (w.heap.size + 1) 6 = true := (room_far _ _ _ _ _ d6).trans ((room_gb (gb_trans (gb_trans (gb_trans g1 g21) g24) g27) (by first | omega | (simp; done) | (simp; omega)) (by omega) 6).trans ((roomAt_drew _ _ _).trans ((roomAt_old _ _ _ _ (by omega)).trans p6)))
        have mb : (putRow (w6) (w5.heap.size) (⟨37, ⟨#[]⟩, 0, false, some ⟨w5.heap.size + 1, 0, none⟩, 2, 2, (tk.p : Int)⟩ : Nc).cells).heap[w5.heap.size + 1]? = some (.cells (c.cells ++ c5.cells) 31 (0, 0)) := (put_far _ _ _ _ db).trans (((g27).block (w5.heap.size + 1) (by first | omega | (simp; done) | (simp; omega)) (by intro e; injection e with e; first | omega | (simp at e; omega))).trans (heap_new' _ _ (by simp)))
        have gw : w.grownBy (w6) (some b) := S29.gb
        have m1 : NdAt (putRow (w6) (w5.heap.size) (⟨37, ⟨#[]⟩, 0, false, some ⟨w5.heap.size + 1, 0, none⟩, 2, 2, (tk.p : Int)⟩ : Nc).cells) (fun x => P x ∧ x ≠ w5.heap.size ∧ x ≠ w.heap.size + 1) c n1 := HC.out.keep (fun x hx hl => ⟨hx, by omega, by omega⟩) (by rw [size_put]; exact gw.size) (fun x hx hl => (put_far _ _ _ _ (by omega)).trans (gw.block x hl (by intro e; injection e with e; exact hP1 x hx e)))
        have m2 : NdAt (putRow (w6) (w5.heap.size) (⟨37, ⟨#[]⟩, 0, false, some ⟨w5.heap.size + 1, 0, none⟩, 2, 2, (tk.p : Int)⟩ : Nc).cells) (fun x => P x ∧ x ≠ w5.heap.size ∧ x ≠ w.heap.size + 1) c5 n2 := n5.keep (fun x hx hl => ⟨hP2 x (by first | omega | (simp at hx; omega)), by first | omega | (simp at hx ⊢; omega), by first | omega | (simp at hx; omega)⟩) (by rw [size_put]; exact ((gb_trans (gb_trans g21 g24) g27)).size) (fun x hx hl => (put_far _ _ _ _ (by first | omega | (simp at hx ⊢; omega))).trans (((gb_trans (gb_trans g21 g24) g27)).block x hl (by intro e; injection e with e; first | omega | (simp at hx; omega))))
        have FIN : Hid (BinAt w (putRow (w6) (w5.heap.size) (⟨37, ⟨#[]⟩, 0, false, some ⟨w5.heap.size + 1, 0, none⟩, 2, 2, (tk.p : Int)⟩ : Nc).cells) b g cap L o P tk n1 n2 t2 i w2.heap.size (w5.heap.size)) := ⟨w5.heap.size + 1, i5, SY, ht5, hi5, rowNd_put _ _ _ rm30, room_keep rm30 _ rfl, m6, hY.1, n8, bin_made ⟨hP2 _ (by first | omega | (simp; done) | (simp; omega)), db, by first | omega | (simp; done) | (simp; omega)⟩ mb m1 m2⟩
        have HY : Hid (rowAt (putRow (w6) (w5.heap.size) (⟨37, ⟨#[]⟩, 0, false, some ⟨w5.heap.size + 1, 0, none⟩, 2, 2, (tk.p : Int)⟩ : Nc).cells) w2.heap.size = some tk.tk.cells ∧ rowAt (putRow (w6) (w5.heap.size) (⟨37, ⟨#[]⟩, 0, false, some ⟨w5.heap.size + 1, 0, none⟩, 2, 2, (tk.p : Int)⟩ : Nc).cells) w.heap.size = some c.cells) := hY
        clear SY m6 mb gw m1 m2 hY n8 d7 d4 d6 db n5 s5 ht5 hi5 g1 g21 g24 g27 S29
        go_simp
        refine hK.out _ _ HY.out (fun _ => ?_)
        clear hK K
        refine wpAnyH_done (by kernel_rfl) ?_ _
        go_wp2_with fail
        go_meet
        exact ⟨_, rfl, FIN.out⟩
    · go_simp
      have g31 : ((w2.alloc (.cells tk.tk.cells 41)).drew).grownBy (((w2.alloc (.cells tk.tk.cells 41)).drew).alloc (.cells (⟨0, ⟨#[]⟩, 0, false, none, 0, 0, 0⟩ : Nc).cells 31)) (some b) := gb_of_below (by go_grown) b
      have hh32 := hold_gb hHeld g31 hq7 hq4
      refine hK.out _ _ hh32 (fun _ => ?_)
      clear hK K
      have S33 := S3.alloc (.cells (⟨0, ⟨#[]⟩, 0, false, none, 0, 0, 0⟩ : Nc).cells 31)
      refine wpAnyH_ready (rs := [4]) (by kernel_rfl) (by simp) ?_
      refine .cons rfl (fun K hK => ?_) .nil
      go_simp
      go_wp2_with (go_at_call 62; refine (HF.out _ S33.rd).mono ?_; rintro e w5 ⟨c5, i5, rfl, ht5, hi5, s5, n5⟩)
      have g34 : (((w2.alloc (.cells tk.tk.cells 41)).drew).alloc (.cells (⟨0, ⟨#[]⟩, 0, false, none, 0, 0, 0⟩ : Nc).cells 31)).grownBy (w5) (some b) := s5.gb
      have z5 := g34.size
      simp at z5
      have hh35 := hold_gb hh32 g34 hq7 hq4
      refine hK.out _ _ hh35 (fun _ => ?_)
      clear hK K
      have S36 := S33.next s5
      refine wpAnyH_ready (rs := [5]) (by kernel_rfl) (by simp) ?_
      refine .cons rfl (fun K hK => ?_) .nil
      go_simp
      have g37 : (w5).grownBy ((w5).alloc (.cells (c.cells ++ c5.cells) 31)) (some b) := gb_of_below (by go_grown) b
      have hh38 := hold_gb hh35 g37 hq7 hq4
      refine hK.out _ _ hh38 (fun _ => ?_)
      clear hK K
      have S39 := S36.alloc (.cells (c.cells ++ c5.cells) 31)
      refine wpAnyH_ready (rs := [6]) (by kernel_rfl) (by simp) ?_
      refine .cons rfl (fun K hK => ?_) .nil
      go_simp
      go_wp2_with (go_at_call 59; refine (node_any _ _ _ _ _ _).mono ?_; rintro e w6 ⟨rfl, hb6⟩)
      have g40 : ((w5).alloc (.cells (c.cells ++ c5.cells) 31)).grownBy (w6) (some b) := gb_of_below hb6 b
      have z6 := g40.size
      simp at z6
      have hh41 := hold_gb hh38 g40 hq7 hq4
      refine hK.out _ _ hh41 (fun _ => ?_)
      clear hK K
      have S42 := S39.below hb6
      refine wpAnyH_ready (rs := [8]) (by kernel_rfl) (by simp) ?_
      refine .cons rfl (fun K hK => ?_) .nil
      have rm43 : roomAt (w6) (w2.heap.size + 1) 6 = true := (room_gb (gb_trans (gb_trans g34 g37) g40) (by first | omega | (simp; done) | (simp; omega)) (by first | omega | (simp; done) | (simp; omega)) 6).trans (roomNd_new _ _ _ _ (by simp))
      have n8 : w.heap.size + 1 < w2.heap.size + 1 := by first | omega | (simp; done) | (simp; omega)
      have d7 : w2.heap.size ≠ w2.heap.size + 1 := by first | omega | (simp; done) | (simp; omega)
      have d4 : w.heap.size ≠ w2.heap.size + 1 := by omega
      have d6 : w.heap.size + 1 ≠ w2.heap.size + 1 := by omega
      have db : w5.heap.size ≠ w2.heap.size + 1 := by first | omega | (simp; done) | (simp; omega)
      have hY : rowAt (putRow (w6) (w2.heap.size + 1) (⟨37, ⟨#[]⟩, 0, false, some ⟨w5.heap.size, 0, none⟩, 2, 2, (tk.p : Int)⟩ : Nc).cells) w2.heap.size = some tk.tk.cells ∧ rowAt (putRow (w6) (w2.heap.size + 1) (⟨37, ⟨#[]⟩, 0, false, some ⟨w5.heap.size, 0, none⟩, 2, 2, (tk.p : Int)⟩ : Nc).cells) w.heap.size = some c.cells := ⟨(row_far _ _ _ _ d7).trans hh41.1, (row_far _ _ _ _ d4).trans hh41.2⟩
      have SY : St w (putRow (w6) (w2.heap.size + 1) (⟨37, ⟨#[]⟩, 0, false, some ⟨w5.heap.size, 0, none⟩, 2, 2, (tk.p : Int)⟩ : Nc).cells) b g cap L i5 o := S42.old bl gl _ (by omega) _
      have m6 : roomAt (putRow (w6) (w2.heap.size + 1) (⟨37, ⟨#[]⟩, 0, false, some ⟨w5.heap.size, 0, none⟩, 2, 2, (tk.p : Int)⟩ : Nc).cells) (w.heap.size + 1) 6 = true := (room_far _ _ _ _ _ d6).trans ((room_gb (gb_trans (gb_trans (gb_trans g31 g34) g37) g40) (by first | omega | (simp; done) | (simp; omega)) (by omega) 6).trans ((roomAt_drew _ _ _).trans ((roomAt_old _ _ _ _ (by omega)).trans p6)))
      have mb : (putRow (w6) (w2.heap.size + 1) (⟨37, ⟨#[]⟩, 0, false, some ⟨w5.heap.size, 0, none⟩, 2, 2, (tk.p : Int)⟩ : Nc).cells).heap[w5.heap.size]? = some (.cells (c.cells ++ c5.cells) 31 (0, 0)) := (put_far _ _ _ _ db).trans (((g40).block (w5.heap.size) (by first | omega | (simp; done) | (simp; omega)) (by intro e; injection e with e; first | omega | (simp at e; omega))).trans (heap_new' _ _ (by simp)))
      have gw : w.grownBy (w6) (some b) := S42.gb
      have m1 : NdAt (putRow (w6) (w2.heap.size + 1) (⟨37, ⟨#[]⟩, 0, false, some ⟨w5.heap.size, 0, none⟩, 2, 2, (tk.p : Int)⟩ : Nc).cells) (fun x => P x ∧ x ≠ w2.heap.size + 1 ∧ x ≠ w.heap.size + 1) c n1 := HC.out.keep (fun x hx hl => ⟨hx, by omega, by omega⟩) (by rw [size_put]; exact gw.size) (fun x hx hl => (put_far _ _ _ _ (by omega)).trans (gw.block x hl (by intro e; injection e with e; exact hP1 x hx e)))
      have m2 : NdAt (putRow (w6) (w2.heap.size + 1) (⟨37, ⟨#[]⟩, 0, false, some ⟨w5.heap.size, 0, none⟩, 2, 2, (tk.p : Int)⟩ : Nc).cells) (fun x => P x ∧ x ≠ w2.heap.size + 1 ∧ x ≠ w.heap.size + 1) c5 n2 := n5.keep (fun x hx hl => ⟨hP2 x (by first | omega | (simp at hx; omega)), by first | omega | (simp at hx ⊢; omega), by first | omega | (simp at hx; omega)⟩) (by rw [size_put]; exact ((gb_trans g37 g40)).size) (fun x hx hl => (put_far _ _ _ _ (by first | omega | (simp at hx ⊢; omega))).trans (((gb_trans g37 g40)).block x hl (by intro e; injection e with e; first | omega | (simp at hx; omega))))
      have FIN : Hid (BinAt w (putRow (w6) (w2.heap.size + 1) (⟨37, ⟨#[]⟩, 0, false, some ⟨w5.heap.size, 0, none⟩, 2, 2, (tk.p : Int)⟩ : Nc).cells) b g cap L o P tk n1 n2 t2 i w2.heap.size (w2.heap.size + 1)) := ⟨w5.heap.size, i5, SY, ht5, hi5, rowNd_put _ _ _ rm43, room_keep rm43 _ rfl, m6, hY.1, n8, bin_made ⟨hP2 _ (by first | omega | (simp; done) | (simp; omega)), db, by first | omega | (simp; done) | (simp; omega)⟩ mb m1 m2⟩
      have HY : Hid (rowAt (putRow (w6) (w2.heap.size + 1) (⟨37, ⟨#[]⟩, 0, false, some ⟨w5.heap.size, 0, none⟩, 2, 2, (tk.p : Int)⟩ : Nc).cells) w2.heap.size = some tk.tk.cells ∧ rowAt (putRow (w6) (w2.heap.size + 1) (⟨37, ⟨#[]⟩, 0, false, some ⟨w5.heap.size, 0, none⟩, 2, 2, (tk.p : Int)⟩ : Nc).cells) w.heap.size = some c.cells) := hY
      clear SY m6 mb gw m1 m2 hY n8 d7 d4 d6 db n5 s5 ht5 hi5 g31 g34 g37 g40 S42
      go_simp
      refine hK.out _ _ HY.out (fun _ => ?_)
      clear hK K
      refine wpAnyH_done (by kernel_rfl) ?_ _
      go_wp2_with fail
      go_meet
      exact ⟨_, rfl, FIN.out⟩
  case rest =>
    obtain ⟨q, rfl, blk, i', SY, ht, hi, ry, my, m6, r7, n8, nd⟩ := hcut
    have c7 := rowAt_cell r7
    have cy := rowAt_cell ry
    have fy : ∀ j, j < 6 → wc.frozen? ⟨q, j, none⟩ = false := fun j hj => by have := (room_there my j hj).2; rwa [Nat.zero_add] at this
    have fy1 := fy 1 (by omega)
    have ry2 : rowAt (wc.setCell ⟨q, 1, none⟩ (.string tk.tk.t)) q = some (⟨37, tk.tk.t, 0, false, some ⟨blk, 0, none⟩, 2, 2, (tk.p : Int)⟩ : Nc).cells := rowAt_set _ _ _ _ _ ry
    have my2 : roomAt (wc.setCell ⟨q, 1, none⟩ (.string tk.tk.t)) (w.heap.size + 1) 6 = true := (roomAt_far _ _ _ _ _ (by show w.heap.size + 1 ≠ q; omega)).trans m6
    have FS : Hid (St w (putRow (wc.setCell ⟨q, 1, none⟩ (.string tk.tk.t)) (w.heap.size + 1) (⟨37, tk.tk.t, 0, false, some ⟨blk, 0, none⟩, 2, 2, (tk.p : Int)⟩ : Nc).cells) b g cap L i' o) := (SY.far bl gl q 1 (by omega) _).old bl gl _ (by omega) _
    have FN : Hid (NdAt (putRow (wc.setCell ⟨q, 1, none⟩ (.string tk.tk.t)) (w.heap.size + 1) (⟨37, tk.tk.t, 0, false, some ⟨blk, 0, none⟩, 2, 2, (tk.p : Int)⟩ : Nc).cells) P ⟨37, bs tk.t, 0, false, some ⟨blk, 0, none⟩, 2, 2, (tk.p : Int)⟩ (binN tk n1 n2)) := nd.keep (fun x hx _ => hx.1) (by rw [size_put]; simp) (fun x hx hl => (put_far _ _ _ _ hx.2.2).trans (Below.heap_setCell _ _ _ _ hx.2.1))
    have HT : Hid (t2 = L.drop i' ∧ i + 1 < i') := ⟨ht, hi⟩
    clear nd SY ht hi fy HC HF PA S3 S2 s2 r4 p6 hs2 ry my r7 m6
    go_wp2_with fail
    exact ret_cell1 rfl rfl (loadNd_row (rowNd_put _ _ _ my2)) rfl ⟨_, i', rfl, HT.out.1, HT.out.2, FS.out, FN.out⟩
set_option maxHeartbeats 4000000 in
set_option maxRecDepth 20000 in
theorem binary_ok_factor (w : World) (b g cap : Nat) (L : List Tok) (i o : Nat) (h : RdAt w b g cap L i o) (hk : (hd (L.drop i)).k ≠ 0) (c : Nc) (P : Nat → Prop) (hP1 : ∀ x, P x → x ≠ b) (hP2 : ∀ x, w.heap.size ≤ x → P x) (n1 n2 : Nd) (t2 : List Tok) (hc : NdAt w P c n1)
    (hF : ∀ X, RdAt X b g cap L (i + 1) o → Calls Tryd.prog 74 #[.pointer (some ⟨b, 0, none⟩)] X (PostN X b g cap L (i + 1) o (.ok n2 t2))) :
    Calls Tryd.prog 45 #[.pointer (some ⟨b, 0, none⟩), .agg c.cells, .func (.func 74) #[.pointer (some ⟨b, 0, none⟩)] #[]] w fun e w' => ∃ c' i', e = .returned (.agg (Nc.cells c')) ∧ t2 = L.drop i' ∧ i + 1 < i' ∧ St w w' b g cap L i' o ∧ NdAt w' P c' (binN (hd (L.drop i)) n1 n2) := by
  have PA : Hid (∀ X, RdAt X b g cap L i o → Calls Tryd.prog 52 #[.pointer (some ⟨b, 0, none⟩)] X _) := fun X hX => pass_any X b g cap L i o hX hk
  have H : Hid (RdAt w b g cap L i o) := h
  have HF : Hid (∀ X, RdAt X b g cap L (i + 1) o → Calls Tryd.prog 74 #[.pointer (some ⟨b, 0, none⟩)] X (PostN X b g cap L (i + 1) o (.ok n2 t2))) := hF
  have HC : Hid (NdAt w P c n1) := hc
  have bl := h.bl
  have gl := h.gl
  clear h hk hF hc
  obtain ⟨tk, htk⟩ : ∃ tk, tk = hd (L.drop i) := ⟨_, rfl⟩
  rw [← htk] at PA ⊢
  clear htk
  go_enter Tryd.func45, Tryd.ntmps45
  go_upto_region 2 with (go_at_call 52; refine (PA.out _ ((H.out.alloc _).alloc _)).mono ?_; rintro e w2 ⟨rfl, s2⟩)
  have S2 : St w w2 b g cap L (i + 1) o := (((St.refl H.out).alloc _).alloc _).next s2
  have hs2 := s2.size
  simp at hs2
  have r4 : rowAt w2 w.heap.size = some c.cells := (s2.row (by simp; omega) (by omega)).trans ((rowAt_old _ _ _ (by simp)).trans (rowAt_at _ _ _ _ _ rfl))
  have p6 : roomAt w2 (w.heap.size + 1) 6 = true := (s2.room (by simp) (by omega) 6).trans (roomNd_new _ _ _ _ (by simp))
  have S3 := (S2.alloc (.cells tk.tk.cells 41)).drew
  have hq7 : w2.heap.size ≠ b := by omega
  have hq4 : w.heap.size ≠ b := by omega
  go_cut [8] (fun s8 Y => ∃ q, s8 = .pointer (some ⟨q, 0, none⟩) ∧ BinAt w Y b g cap L o P tk n1 n2 t2 i w2.heap.size q)
  case first =>
    refine wp_region_held_drew (S := (fun X => rowAt X w2.heap.size = some tk.tk.cells ∧ rowAt X w.heap.size = some c.cells)) (by kernel_rfl) ⟨(rowAt_drew _ _).trans (rowAt_at _ _ _ _ _ rfl), (rowAt_drew _ _).trans ((rowAt_old _ _ _ (by omega)).trans r4)⟩ (fun hHeld => ?_)
    refine wpAnyH_take (i := 0) (v := ?_) rfl (by kernel_rfl) (by kernel_rfl) (by kernel_rfl) (fun _ _ _ h => h) (Or.inl ⟨by rfl, ?y0⟩) hHeld ?r0
    case y0 => (intro w2 hSw; (try dsimp only at hSw); go_simp; try rfl)
    simp only [Act.put, List.setIfInBounds_toArray, List.set_cons_zero, List.set_cons_succ]
    refine wpAnyH_take (i := 1) (v := ?_) rfl (by kernel_rfl) (by kernel_rfl) (by kernel_rfl) (fun _ _ _ h => h) (Or.inl ⟨by rfl, ?y1⟩) hHeld ?r1
    case y1 => (intro w2 hSw; (try dsimp only at hSw); have c3 := rowAt_cell hSw.1 3; go_simp; try rfl)
    simp only [Act.put, List.setIfInBounds_toArray, List.set_cons_zero, List.set_cons_succ]
    refine wpAnyH_take (i := 2) (v := ?_) rfl (by kernel_rfl) (by kernel_rfl) (by kernel_rfl) (fun _ _ _ h => h) (Or.inl ⟨by rfl, ?y2⟩) hHeld ?r2
    case y2 => (intro w2 hSw; (try dsimp only at hSw); go_simp; try rfl)
    simp only [Act.put, List.setIfInBounds_toArray, List.set_cons_zero, List.set_cons_succ]
    refine wpAnyH_take (i := 3) (v := ?_) rfl (by kernel_rfl) (by kernel_rfl) (by kernel_rfl) (fun _ _ _ h => h) (Or.inl ⟨by rfl, ?y3⟩) hHeld ?r3
    case y3 => (intro w2 hSw; (try dsimp only at hSw); go_simp; try rfl)
    simp only [Act.put, List.setIfInBounds_toArray, List.set_cons_zero, List.set_cons_succ]
    refine wpAnyH_ready (rs := [4, 7]) (by kernel_rfl) (by simp) ?_
    refine .cons rfl (fun K hK => ?_) (.cons rfl (fun K hK => ?_) .nil)
    · go_simp
      go_wp2_with (go_at_call 74; refine (HF.out _ S3.rd).mono ?_; rintro e w5 ⟨c5, i5, rfl, ht5, hi5, s5, n5⟩)
      have g1 : ((w2.alloc (.cells tk.tk.cells 41)).drew).grownBy (w5) (some b) := s5.gb
      have z5 := g1.size
      simp at z5
      have hh2 := hold_gb hHeld g1 hq7 hq4
      refine hK.out _ _ hh2 (fun _ => ?_)
      clear hK K
      have S3 := S3.next s5
      refine wpAnyH_ready (rs := [5, 7]) (by kernel_rfl) (by simp) ?_
      refine .cons rfl (fun K hK => ?_) (.cons rfl (fun K hK => ?_) .nil)
      · go_simp
        have g4 : (w5).grownBy ((w5).alloc (.cells (c.cells ++ c5.cells) 31)) (some b) := gb_of_below (by go_grown) b
        have hh5 := hold_gb hh2 g4 hq7 hq4
        refine hK.out _ _ hh5 (fun _ => ?_)
        clear hK K
        have S6 := S3.alloc (.cells (c.cells ++ c5.cells) 31)
        refine wpAnyH_ready (rs := [6, 7]) (by kernel_rfl) (by simp) ?_
        refine .cons rfl (fun K hK => ?_) (.cons rfl (fun K hK => ?_) .nil)
        · go_simp
          go_wp2_with (go_at_call 59; refine (node_any _ _ _ _ _ _).mono ?_; rintro e w6 ⟨rfl, hb6⟩)
          have g7 : ((w5).alloc (.cells (c.cells ++ c5.cells) 31)).grownBy (w6) (some b) := gb_of_below hb6 b
          have z6 := g7.size
          simp at z6
          have hh8 := hold_gb hh5 g7 hq7 hq4
          refine hK.out _ _ hh8 (fun _ => ?_)
          clear hK K
          have S9 := S6.below hb6
          refine wpAnyH_ready (rs := [7]) (by kernel_rfl) (by simp) ?_
          refine .cons rfl (fun K hK => ?_) .nil
          go_simp
          have g10 : (w6).grownBy ((w6).alloc (.cells (⟨0, ⟨#[]⟩, 0, false, none, 0, 0, 0⟩ : Nc).cells 31)) (some b) := gb_of_below (by go_grown) b
          have hh11 := hold_gb hh8 g10 hq7 hq4
          refine hK.out _ _ hh11 (fun _ => ?_)
          clear hK K
          have S12 := S9.alloc (.cells (⟨0, ⟨#[]⟩, 0, false, none, 0, 0, 0⟩ : Nc).cells 31)
          refine wpAnyH_ready (rs := [8]) (by kernel_rfl) (by simp) ?_
          refine .cons rfl (fun K hK => ?_) .nil
          have rm13 : roomAt ((w6).alloc (.cells (⟨0, ⟨#[]⟩, 0, false, none, 0, 0, 0⟩ : Nc).cells 31)) (w6.heap.size) 6 = true := roomNd_new _ _ _ _ (by simp)
          have n8 : w.heap.size + 1 < w6.heap.size := by first | omega | (simp; done) | (simp; omega)
          have d7 : w2.heap.size ≠ w6.heap.size := by first | omega | (simp; done) | (simp; omega)
          have d4 : w.heap.size ≠ w6.heap.size := by omega
          have d6 : w.heap.size + 1 ≠ w6.heap.size := by omega
          have db : w5.heap.size ≠ w6.heap.size := by first | omega | (simp; done) | (simp; omega)
          have hY : rowAt (putRow ((w6).alloc (.cells (⟨0, ⟨#[]⟩, 0, false, none, 0, 0, 0⟩ : Nc).cells 31)) (w6.heap.size) (⟨37, ⟨#[]⟩, 0, false, some ⟨w5.heap.size, 0, none⟩, 2, 2, (tk.p : Int)⟩ : Nc).cells) w2.heap.size = some tk.tk.cells ∧ rowAt (putRow ((w6).alloc (.cells (⟨0, ⟨#[]⟩, 0, false, none, 0, 0, 0⟩ : Nc).cells 31)) (w6.heap.size) (⟨37, ⟨#[]⟩, 0, false, some ⟨w5.heap.size, 0, none⟩, 2, 2, (tk.p : Int)⟩ : Nc).cells) w.heap.size = some c.cells := ⟨(row_far _ _ _ _ d7).trans hh11.1, (row_far _ _ _ _ d4).trans hh11.2⟩
          have SY : St w (putRow ((w6).alloc (.cells (⟨0, ⟨#[]⟩, 0, false, none, 0, 0, 0⟩ : Nc).cells 31)) (w6.heap.size) (⟨37, ⟨#[]⟩, 0, false, some ⟨w5.heap.size, 0, none⟩, 2, 2, (tk.p : Int)⟩ : Nc).cells) b g cap L i5 o := S12.old bl gl _ (by omega) _
          have m6 : roomAt (putRow ((w6).alloc (.cells (⟨0, ⟨#[]⟩, 0, false, none, 0, 0, 0⟩ : Nc).cells 31)) (w6.heap.size) (⟨37, ⟨#[]⟩, 0, false, some ⟨w5.heap.size, 0, none⟩, 2, 2, (tk.p : Int)⟩ : Nc).cells) (w.heap.size + 1) 6 = true := (room_far _ _ _ _ _ d6).trans ((room_gb (gb_trans (gb_trans (gb_trans g1 g4) g7) g10) (by first | omega | (simp; done) | (simp; omega)) (by omega) 6).trans ((roomAt_drew _ _ _).trans ((roomAt_old _ _ _ _ (by omega)).trans p6)))
          have mb : (putRow ((w6).alloc (.cells (⟨0, ⟨#[]⟩, 0, false, none, 0, 0, 0⟩ : Nc).cells 31)) (w6.heap.size) (⟨37, ⟨#[]⟩, 0, false, some ⟨w5.heap.size, 0, none⟩, 2, 2, (tk.p : Int)⟩ : Nc).cells).heap[w5.heap.size]? = some (.cells (c.cells ++ c5.cells) 31 (0, 0)) := (put_far _ _ _ _ db).trans ((((gb_trans g7 g10)).block (w5.heap.size) (by first | omega | (simp; done) | (simp; omega)) (by intro e; injection e with e; first | omega | (simp at e; omega))).trans (heap_new' _ _ (by simp)))
          have gw : w.grownBy ((w6).alloc (.cells (⟨0, ⟨#[]⟩, 0, false, none, 0, 0, 0⟩ : Nc).cells 31)) (some b) := S12.gb
          have m1 : NdAt (putRow ((w6).alloc (.cells (⟨0, ⟨#[]⟩, 0, false, none, 0, 0, 0⟩ : Nc).cells 31)) (w6.heap.size) (⟨37, ⟨#[]⟩, 0, false, some ⟨w5.heap.size, 0, none⟩, 2, 2, (tk.p : Int)⟩ : Nc).cells) (fun x => P x ∧ x ≠ w6.heap.size ∧ x ≠ w.heap.size + 1) c n1 := HC.out.keep (fun x hx hl => ⟨hx, by omega, by omega⟩) (by rw [size_put]; exact gw.size) (fun x hx hl => (put_far _ _ _ _ (by omega)).trans (gw.block x hl (by intro e; injection e with e; exact hP1 x hx e)))
          have m2 : NdAt (putRow ((w6).alloc (.cells (⟨0, ⟨#[]⟩, 0, false, none, 0, 0, 0⟩ : Nc).cells 31)) (w6.heap.size) (⟨37, ⟨#[]⟩, 0, false, some ⟨w5.heap.size, 0, none⟩, 2, 2, (tk.p : Int)⟩ : Nc).cells) (fun x => P x ∧ x ≠ w6.heap.size ∧ x ≠ w.heap.size + 1) c5 n2 := n5.keep (fun x hx hl => ⟨hP2 x (by first | omega | (simp at hx; omega)), by first | omega | (simp at hx ⊢; omega), by first | omega | (simp at hx; omega)⟩) (by rw [size_put]; exact ((gb_trans (gb_trans g4 g7) g10)).size) (fun x hx hl => (put_far _ _ _ _ (by first | omega | (simp at hx ⊢; omega))).trans (((gb_trans (gb_trans g4 g7) g10)).block x hl (by intro e; injection e with e; first | omega | (simp at hx; omega))))
          have FIN : Hid (BinAt w (putRow ((w6).alloc (.cells (⟨0, ⟨#[]⟩, 0, false, none, 0, 0, 0⟩ : Nc).cells 31)) (w6.heap.size) (⟨37, ⟨#[]⟩, 0, false, some ⟨w5.heap.size, 0, none⟩, 2, 2, (tk.p : Int)⟩ : Nc).cells) b g cap L o P tk n1 n2 t2 i w2.heap.size (w6.heap.size)) := ⟨w5.heap.size, i5, SY, ht5, hi5, rowNd_put _ _ _ rm13, room_keep rm13 _ rfl, m6, hY.1, n8, bin_made ⟨hP2 _ (by first | omega | (simp; done) | (simp; omega)), db, by first | omega | (simp; done) | (simp; omega)⟩ mb m1 m2⟩
          have HY : Hid (rowAt (putRow ((w6).alloc (.cells (⟨0, ⟨#[]⟩, 0, false, none, 0, 0, 0⟩ : Nc).cells 31)) (w6.heap.size) (⟨37, ⟨#[]⟩, 0, false, some ⟨w5.heap.size, 0, none⟩, 2, 2, (tk.p : Int)⟩ : Nc).cells) w2.heap.size = some tk.tk.cells ∧ rowAt (putRow ((w6).alloc (.cells (⟨0, ⟨#[]⟩, 0, false, none, 0, 0, 0⟩ : Nc).cells 31)) (w6.heap.size) (⟨37, ⟨#[]⟩, 0, false, some ⟨w5.heap.size, 0, none⟩, 2, 2, (tk.p : Int)⟩ : Nc).cells) w.heap.size = some c.cells) := hY
          clear SY m6 mb gw m1 m2 hY n8 d7 d4 d6 db n5 s5 ht5 hi5 g1 g4 g7 g10 S12
          rw [putNd_new _ _ _ _ _ (by simp)] at FIN HY
          go_simp
          refine hK.out _ _ HY.out (fun _ => ?_)
          clear hK K
          refine wpAnyH_done (by kernel_rfl) ?_ _
          go_wp2_with fail
          go_meet
          exact ⟨_, rfl, FIN.out⟩
        · go_simp
          have g14 : ((w5).alloc (.cells (c.cells ++ c5.cells) 31)).grownBy (((w5).alloc (.cells (c.cells ++ c5.cells) 31)).alloc (.cells (⟨0, ⟨#[]⟩, 0, false, none, 0, 0, 0⟩ : Nc).cells 31)) (some b) := gb_of_below (by go_grown) b
          have hh15 := hold_gb hh5 g14 hq7 hq4
          refine hK.out _ _ hh15 (fun _ => ?_)
          clear hK K
          have S16 := S6.alloc (.cells (⟨0, ⟨#[]⟩, 0, false, none, 0, 0, 0⟩ : Nc).cells 31)
          refine wpAnyH_ready (rs := [6]) (by kernel_rfl) (by simp) ?_
          refine .cons rfl (fun K hK => ?_) .nil
          go_simp
          go_wp2_with (go_at_call 59; refine (node_any _ _ _ _ _ _).mono ?_; rintro e w6 ⟨rfl, hb6⟩)
          have g17 : (((w5).alloc (.cells (c.cells ++ c5.cells) 31)).alloc (.cells (⟨0, ⟨#[]⟩, 0, false, none, 0, 0, 0⟩ : Nc).cells 31)).grownBy (w6) (some b) := gb_of_below hb6 b
          have z6 := g17.size
          simp at z6
          have hh18 := hold_gb hh15 g17 hq7 hq4
          refine hK.out _ _ hh18 (fun _ => ?_)
          clear hK K
          have S19 := S16.below hb6
          refine wpAnyH_ready (rs := [8]) (by kernel_rfl) (by simp) ?_
          refine .cons rfl (fun K hK => ?_) .nil
          have rm20 : roomAt (w6) (w5.heap.size + 1) 6 = true := (room_gb g17 (by first | omega | (simp; done) | (simp; omega)) (by first | omega | (simp; done) | (simp; omega)) 6).trans (roomNd_new _ _ _ _ (by simp))
          have n8 : w.heap.size + 1 < w5.heap.size + 1 := by first | omega | (simp; done) | (simp; omega)
          have d7 : w2.heap.size ≠ w5.heap.size + 1 := by first | omega | (simp; done) | (simp; omega)
          have d4 : w.heap.size ≠ w5.heap.size + 1 := by omega
          have d6 : w.heap.size + 1 ≠ w5.heap.size + 1 := by omega
          have db : w5.heap.size ≠ w5.heap.size + 1 := by first | omega | (simp; done) | (simp; omega)
          have hY : rowAt (putRow (w6) (w5.heap.size + 1) (⟨37, ⟨#[]⟩, 0, false, some ⟨w5.heap.size, 0, none⟩, 2, 2, (tk.p : Int)⟩ : Nc).cells) w2.heap.size = some tk.tk.cells ∧ rowAt (putRow (w6) (w5.heap.size + 1) (⟨37, ⟨#[]⟩, 0, false, some ⟨w5.heap.size, 0, none⟩, 2, 2, (tk.p : Int)⟩ : Nc).cells) w.heap.size = some c.cells := ⟨(row_far _ _ _ _ d7).trans hh18.1, (row_far _ _ _ _ d4).trans hh18.2⟩
          have SY : St w (putRow (w6) (w5.heap.size + 1) (⟨37, ⟨#[]⟩, 0, false, some ⟨w5.heap.size, 0, none⟩, 2, 2, (tk.p : Int)⟩ : Nc).cells) b g cap L i5 o := S19.old bl gl _ (by omega) _
          have m6 : roomAt (putRow (w6) (w5.heap.size + 1) (⟨37, ⟨#[]⟩, 0, false, some ⟨w5.heap.size, 0, none⟩, 2, 2, (tk.p : Int)⟩ : Nc).cells) (w.heap.size + 1) 6 = true := (room_far _ _ _ _ _ d6).trans ((room_gb (gb_trans (gb_trans (gb_trans g1 g4) g14) g17) (by first | omega | (simp; done) | (simp; omega)) (by omega) 6).trans ((roomAt_drew _ _ _).trans ((roomAt_old _ _ _ _ (by omega)).trans p6)))
          have mb : (putRow (w6) (w5.heap.size + 1) (⟨37, ⟨#[]⟩, 0, false, some ⟨w5.heap.size, 0, none⟩, 2, 2, (tk.p : Int)⟩ : Nc).cells).heap[w5.heap.size]? = some (.cells (c.cells ++ c5.cells) 31 (0, 0)) := (put_far _ _ _ _ db).trans ((((gb_trans g14 g17)).block (w5.heap.size) (by first | omega | (simp; done) | (simp; omega)) (by intro e; injection e with e; first | omega | (simp at e; omega))).trans (heap_new' _ _ (by simp)))
          have gw : w.grownBy (w6) (some b) := S19.gb
          have m1 : NdAt (putRow (w6) (w5.heap.size + 1) (⟨37, ⟨#[]⟩, 0, false, some ⟨w5.heap.size, 0, none⟩, 2, 2, (tk.p : Int)⟩ : Nc).cells) (fun x => P x ∧ x ≠ w5.heap.size + 1 ∧ x ≠ w.heap.size + 1) c n1 := HC.out.keep (fun x hx hl => ⟨hx, by omega, by omega⟩) (by rw [size_put]; exact gw.size) (fun x hx hl => (put_far _ _ _ _ (by omega)).trans (gw.block x hl (by intro e; injection e with e; exact hP1 x hx e)))
          have m2 : NdAt (putRow (w6) (w5.heap.size + 1) (⟨37, ⟨#[]⟩, 0, false, some ⟨w5.heap.size, 0, none⟩, 2, 2, (tk.p : Int)⟩ : Nc).cells) (fun x => P x ∧ x ≠ w5.heap.size + 1 ∧ x ≠ w.heap.size + 1) c5 n2 := n5.keep (fun x hx hl => ⟨hP2 x (by first | omega | (simp at hx; omega)), by first | omega | (simp at hx ⊢; omega), by first | omega | (simp at hx; omega)⟩) (by rw [size_put]; exact ((gb_trans (gb_trans g4 g14) g17)).size) (fun x hx hl => (put_far _ _ _ _ (by first | omega | (simp at hx ⊢; omega))).trans (((gb_trans (gb_trans g4 g14) g17)).block x hl (by intro e; injection e with e; first | omega | (simp at hx; omega))))
          have FIN : Hid (BinAt w (putRow (w6) (w5.heap.size + 1) (⟨37, ⟨#[]⟩, 0, false, some ⟨w5.heap.size, 0, none⟩, 2, 2, (tk.p : Int)⟩ : Nc).cells) b g cap L o P tk n1 n2 t2 i w2.heap.size (w5.heap.size + 1)) := ⟨w5.heap.size, i5, SY, ht5, hi5, rowNd_put _ _ _ rm20, room_keep rm20 _ rfl, m6, hY.1, n8, bin_made ⟨hP2 _ (by first | omega | (simp; done) | (simp; omega)), db, by first | omega | (simp; done) | (simp; omega)⟩ mb m1 m2⟩
          have HY : Hid (rowAt (putRow (w6) (w5.heap.size + 1) (⟨37, ⟨#[]⟩, 0, false, some ⟨w5.heap.size, 0, none⟩, 2, 2, (tk.p : Int)⟩ : Nc).cells) w2.heap.size = some tk.tk.cells ∧ rowAt (putRow (w6) (w5.heap.size + 1) (⟨37, ⟨#[]⟩, 0, false, some ⟨w5.heap.size, 0, none⟩, 2, 2, (tk.p : Int)⟩ : Nc).cells) w.heap.size = some c.cells) := hY
          clear SY m6 mb gw m1 m2 hY n8 d7 d4 d6 db n5 s5 ht5 hi5 g1 g4 g14 g17 S19
          go_simp
          refine hK.out _ _ HY.out (fun _ => ?_)
          clear hK K
          refine wpAnyH_done (by kernel_rfl) ?_ _
          go_wp2_with fail
          go_meet
          exact ⟨_, rfl, FIN.out⟩
      · go_simp
        have g21 : (w5).grownBy ((w5).alloc (.cells (⟨0, ⟨#[]⟩, 0, false, none, 0, 0, 0⟩ : Nc).cells 31)) (some b) := gb_of_below (by go_grown) b
        have hh22 := hold_gb hh2 g21 hq7 hq4
        refine hK.out _ _ hh22 (fun _ => ?_)
        clear hK K
        have S23 := S3.alloc (.cells (⟨0, ⟨#[]⟩, 0, false, none, 0, 0, 0⟩ : Nc).cells 31)
        refine wpAnyH_ready (rs := [5]) (by kernel_rfl) (by simp) ?_
        refine .cons rfl (fun K hK => ?_) .nil
        go_simp
        have g24 : ((w5).alloc (.cells (⟨0, ⟨#[]⟩, 0, false, none, 0, 0, 0⟩ : Nc).cells 31)).grownBy (((w5).alloc (.cells (⟨0, ⟨#[]⟩, 0, false, none, 0, 0, 0⟩ : Nc).cells 31)).alloc (.cells (c.cells ++ c5.cells) 31)) (some b) := gb_of_below (by go_grown) b
        have hh25 := hold_gb hh22 g24 hq7 hq4
        refine hK.out _ _ hh25 (fun _ => ?_)
        clear hK K
        have S26 := S23.alloc (.cells (c.cells ++ c5.cells) 31)
        refine wpAnyH_ready (rs := [6]) (by kernel_rfl) (by simp) ?_
        refine .cons rfl (fun K hK => ?_) .nil
        go_simp
        go_wp2_with (go_at_call 59; refine (node_any _ _ _ _ _ _).mono ?_; rintro e w6 ⟨rfl, hb6⟩)
        have g27 : (((w5).alloc (.cells (⟨0, ⟨#[]⟩, 0, false, none, 0, 0, 0⟩ : Nc).cells 31)).alloc (.cells (c.cells ++ c5.cells) 31)).grownBy (w6) (some b) := gb_of_below hb6 b
        have z6 := g27.size
        simp at z6
        have hh28 := hold_gb hh25 g27 hq7 hq4
        refine hK.out _ _ hh28 (fun _ => ?_)
        clear hK K
        have S29 := S26.below hb6
        refine wpAnyH_ready (rs := [8]) (by kernel_rfl) (by simp) ?_
        refine .cons rfl (fun K hK => ?_) .nil
        have rm30 : roomAt (w6) (w5.heap.size) 6 = true := (room_gb (gb_trans g24 g27) (by first | omega | (simp; done) | (simp; omega)) (by first | omega | (simp; done) | (simp; omega)) 6).trans (roomNd_new _ _ _ _ (by simp))
        have n8 : w.heap.size + 1 < w5.heap.size := by first | omega | (simp; done) | (simp; omega)
        have d7 : w2.heap.size ≠ w5.heap.size := by first | omega | (simp; done) | (simp; omega)
        have d4 : w.heap.size ≠ w5.heap.size := by omega
        have d6 : w.heap.size + 1 ≠ w5.heap.size := by omega
        have db : w5.heap.size + 1 ≠ w5.heap.size := by first | omega | (simp; done) | (simp; omega)
        have hY : rowAt (putRow (w6) (w5.heap.size) (⟨37, ⟨#[]⟩, 0, false, some ⟨w5.heap.size + 1, 0, none⟩, 2, 2, (tk.p : Int)⟩ : Nc).cells) w2.heap.size = some tk.tk.cells ∧ rowAt (putRow (w6) (w5.heap.size) (⟨37, ⟨#[]⟩, 0, false, some ⟨w5.heap.size + 1, 0, none⟩, 2, 2, (tk.p : Int)⟩ : Nc).cells) w.heap.size = some c.cells := ⟨(row_far _ _ _ _ d7).trans hh28.1, (row_far _ _ _ _ d4).trans hh28.2⟩
        have SY : St w (putRow (w6) (w5.heap.size) (⟨37, ⟨#[]⟩, 0, false, some ⟨w5.heap.size + 1, 0, none⟩, 2, 2, (tk.p : Int)⟩ : Nc).cells) b g cap L i5 o := S29.old bl gl _ (by omega) _
        have m6 : roomAt (putRow (w6) (w5.heap.size) (⟨37, ⟨#[]⟩, 0, false, some ⟨w5.heap.size + 1, 0, none⟩, 2, 2, (tk.p : Int)⟩ : Nc).cells) (w.heap.size + 1) 6 = true := (room_far _ _ _ _ _ d6).trans ((room_gb (gb_trans (gb_trans (gb_trans g1 g21) g24) g27) (by first | omega | (simp; done) | (simp; omega)) (by omega) 6).trans ((roomAt_drew _ _ _).trans ((roomAt_old _ _ _ _ (by omega)).trans p6)))
        have mb : (putRow (w6) (w5.heap.size) (⟨37, ⟨#[]⟩, 0, false, some ⟨w5.heap.size + 1, 0, none⟩, 2, 2, (tk.p : Int)⟩ : Nc).cells).heap[w5.heap.size + 1]? = some (.cells (c.cells ++ c5.cells) 31 (0, 0)) := (put_far _ _ _ _ db).trans (((g27).block (w5.heap.size + 1) (by first | omega | (simp; done) | (simp; omega)) (by intro e; injection e with e; first | omega | (simp at e; omega))).trans (heap_new' _ _ (by simp)))
        have gw : w.grownBy (w6) (some b) := S29.gb
        have m1 : NdAt (putRow (w6) (w5.heap.size) (⟨37, ⟨#[]⟩, 0, false, some ⟨w5.heap.size + 1, 0, none⟩, 2, 2, (tk.p : Int)⟩ : Nc).cells) (fun x => P x ∧ x ≠ w5.heap.size ∧ x ≠ w.heap.size + 1) c n1 := HC.out.keep (fun x hx hl => ⟨hx, by omega, by omega⟩) (by rw [size_put]; exact gw.size) (fun x hx hl => (put_far _ _ _ _ (by omega)).trans (gw.block x hl (by intro e; injection e with e; exact hP1 x hx e)))
        have m2 : NdAt (putRow (w6) (w5.heap.size) (⟨37, ⟨#[]⟩, 0, false, some ⟨w5.heap.size + 1, 0, none⟩, 2, 2, (tk.p : Int)⟩ : Nc).cells) (fun x => P x ∧ x ≠ w5.heap.size ∧ x ≠ w.heap.size + 1) c5 n2 := n5.keep (fun x hx hl => ⟨hP2 x (by first | omega | (simp at hx; omega)), by first | omega | (simp at hx ⊢; omega), by first | omega | (simp at hx; omega)⟩) (by rw [size_put]; exact ((gb_trans (gb_trans g21 g24) g27)).size) (fun x hx hl => (put_far _ _ _ _ (by first | omega | (simp at hx ⊢; omega))).trans (((gb_trans (gb_trans g21 g24) g27)).block x hl (by intro e; injection e with e; first | omega | (simp at hx; omega))))
        have FIN : Hid (BinAt w (putRow (w6) (w5.heap.size) (⟨37, ⟨#[]⟩, 0, false, some ⟨w5.heap.size + 1, 0, none⟩, 2, 2, (tk.p : Int)⟩ : Nc).cells) b g cap L o P tk n1 n2 t2 i w2.heap.size (w5.heap.size)) := ⟨w5.heap.size + 1, i5, SY, ht5, hi5, rowNd_put _ _ _ rm30, room_keep rm30 _ rfl, m6, hY.1, n8, bin_made ⟨hP2 _ (by first | omega | (simp; done) | (simp; omega)), db, by first | omega | (simp; done) | (simp; omega)⟩ mb m1 m2⟩
        have HY : Hid (rowAt (putRow (w6) (w5.heap.size) (⟨37, ⟨#[]⟩, 0, false, some ⟨w5.heap.size + 1, 0, none⟩, 2, 2, (tk.p : Int)⟩ : Nc).cells) w2.heap.size = some tk.tk.cells ∧ rowAt (putRow (w6) (w5.heap.size) (⟨37, ⟨#[]⟩, 0, false, some ⟨w5.heap.size + 1, 0, none⟩, 2, 2, (tk.p : Int)⟩ : Nc).cells) w.heap.size = some c.cells) := hY
        clear SY m6 mb gw m1 m2 hY n8 d7 d4 d6 db n5 s5 ht5 hi5 g1 g21 g24 g27 S29
        go_simp
        refine hK.out _ _ HY.out (fun _ => ?_)
        clear hK K
        refine wpAnyH_done (by kernel_rfl) ?_ _
        go_wp2_with fail
        go_meet
        exact ⟨_, rfl, FIN.out⟩
    · go_simp
      have g31 : ((w2.alloc (.cells tk.tk.cells 41)).drew).grownBy (((w2.alloc (.cells tk.tk.cells 41)).drew).alloc (.cells (⟨0, ⟨#[]⟩, 0, false, none, 0, 0, 0⟩ : Nc).cells 31)) (some b) := gb_of_below (by go_grown) b
      have hh32 := hold_gb hHeld g31 hq7 hq4
      refine hK.out _ _ hh32 (fun _ => ?_)
      clear hK K
      have S33 := S3.alloc (.cells (⟨0, ⟨#[]⟩, 0, false, none, 0, 0, 0⟩ : Nc).cells 31)
      refine wpAnyH_ready (rs := [4]) (by kernel_rfl) (by simp) ?_
      refine .cons rfl (fun K hK => ?_) .nil
      go_simp
      go_wp2_with (go_at_call 74; refine (HF.out _ S33.rd).mono ?_; rintro e w5 ⟨c5, i5, rfl, ht5, hi5, s5, n5⟩)
      have g34 : (((w2.alloc (.cells tk.tk.cells 41)).drew).alloc (.cells (⟨0, ⟨#[]⟩, 0, false, none, 0, 0, 0⟩ : Nc).cells 31)).grownBy (w5) (some b) := s5.gb
      have z5 := g34.size
      simp at z5
      have hh35 := hold_gb hh32 g34 hq7 hq4
      refine hK.out _ _ hh35 (fun _ => ?_)
      clear hK K
      have S36 := S33.next s5
      refine wpAnyH_ready (rs := [5]) (by kernel_rfl) (by simp) ?_
      refine .cons rfl (fun K hK => ?_) .nil
      go_simp
      have g37 : (w5).grownBy ((w5).alloc (.cells (c.cells ++ c5.cells) 31)) (some b) := gb_of_below (by go_grown) b
      have hh38 := hold_gb hh35 g37 hq7 hq4
      refine hK.out _ _ hh38 (fun _ => ?_)
      clear hK K
      have S39 := S36.alloc (.cells (c.cells ++ c5.cells) 31)
      refine wpAnyH_ready (rs := [6]) (by kernel_rfl) (by simp) ?_
      refine .cons rfl (fun K hK => ?_) .nil
      go_simp
      go_wp2_with (go_at_call 59; refine (node_any _ _ _ _ _ _).mono ?_; rintro e w6 ⟨rfl, hb6⟩)
      have g40 : ((w5).alloc (.cells (c.cells ++ c5.cells) 31)).grownBy (w6) (some b) := gb_of_below hb6 b
      have z6 := g40.size
      simp at z6
      have hh41 := hold_gb hh38 g40 hq7 hq4
      refine hK.out _ _ hh41 (fun _ => ?_)
      clear hK K
      have S42 := S39.below hb6
      refine wpAnyH_ready (rs := [8]) (by kernel_rfl) (by simp) ?_
      refine .cons rfl (fun K hK => ?_) .nil
      have rm43 : roomAt (w6) (w2.heap.size + 1) 6 = true := (room_gb (gb_trans (gb_trans g34 g37) g40) (by first | omega | (simp; done) | (simp; omega)) (by first | omega | (simp; done) | (simp; omega)) 6).trans (roomNd_new _ _ _ _ (by simp))
      have n8 : w.heap.size + 1 < w2.heap.size + 1 := by first | omega | (simp; done) | (simp; omega)
      have d7 : w2.heap.size ≠ w2.heap.size + 1 := by first | omega | (simp; done) | (simp; omega)
      have d4 : w.heap.size ≠ w2.heap.size + 1 := by omega
      have d6 : w.heap.size + 1 ≠ w2.heap.size + 1 := by omega
      have db : w5.heap.size ≠ w2.heap.size + 1 := by first | omega | (simp; done) | (simp; omega)
      have hY : rowAt (putRow (w6) (w2.heap.size + 1) (⟨37, ⟨#[]⟩, 0, false, some ⟨w5.heap.size, 0, none⟩, 2, 2, (tk.p : Int)⟩ : Nc).cells) w2.heap.size = some tk.tk.cells ∧ rowAt (putRow (w6) (w2.heap.size + 1) (⟨37, ⟨#[]⟩, 0, false, some ⟨w5.heap.size, 0, none⟩, 2, 2, (tk.p : Int)⟩ : Nc).cells) w.heap.size = some c.cells := ⟨(row_far _ _ _ _ d7).trans hh41.1, (row_far _ _ _ _ d4).trans hh41.2⟩
      have SY : St w (putRow (w6) (w2.heap.size + 1) (⟨37, ⟨#[]⟩, 0, false, some ⟨w5.heap.size, 0, none⟩, 2, 2, (tk.p : Int)⟩ : Nc).cells) b g cap L i5 o := S42.old bl gl _ (by omega) _
      have m6 : roomAt (putRow (w6) (w2.heap.size + 1) (⟨37, ⟨#[]⟩, 0, false, some ⟨w5.heap.size, 0, none⟩, 2, 2, (tk.p : Int)⟩ : Nc).cells) (w.heap.size + 1) 6 = true := (room_far _ _ _ _ _ d6).trans ((room_gb (gb_trans (gb_trans (gb_trans g31 g34) g37) g40) (by first | omega | (simp; done) | (simp; omega)) (by omega) 6).trans ((roomAt_drew _ _ _).trans ((roomAt_old _ _ _ _ (by omega)).trans p6)))
      have mb : (putRow (w6) (w2.heap.size + 1) (⟨37, ⟨#[]⟩, 0, false, some ⟨w5.heap.size, 0, none⟩, 2, 2, (tk.p : Int)⟩ : Nc).cells).heap[w5.heap.size]? = some (.cells (c.cells ++ c5.cells) 31 (0, 0)) := (put_far _ _ _ _ db).trans (((g40).block (w5.heap.size) (by first | omega | (simp; done) | (simp; omega)) (by intro e; injection e with e; first | omega | (simp at e; omega))).trans (heap_new' _ _ (by simp)))
      have gw : w.grownBy (w6) (some b) := S42.gb
      have m1 : NdAt (putRow (w6) (w2.heap.size + 1) (⟨37, ⟨#[]⟩, 0, false, some ⟨w5.heap.size, 0, none⟩, 2, 2, (tk.p : Int)⟩ : Nc).cells) (fun x => P x ∧ x ≠ w2.heap.size + 1 ∧ x ≠ w.heap.size + 1) c n1 := HC.out.keep (fun x hx hl => ⟨hx, by omega, by omega⟩) (by rw [size_put]; exact gw.size) (fun x hx hl => (put_far _ _ _ _ (by omega)).trans (gw.block x hl (by intro e; injection e with e; exact hP1 x hx e)))
      have m2 : NdAt (putRow (w6) (w2.heap.size + 1) (⟨37, ⟨#[]⟩, 0, false, some ⟨w5.heap.size, 0, none⟩, 2, 2, (tk.p : Int)⟩ : Nc).cells) (fun x => P x ∧ x ≠ w2.heap.size + 1 ∧ x ≠ w.heap.size + 1) c5 n2 := n5.keep (fun x hx hl => ⟨hP2 x (by first | omega | (simp at hx; omega)), by first | omega | (simp at hx ⊢; omega), by first | omega | (simp at hx; omega)⟩) (by rw [size_put]; exact ((gb_trans g37 g40)).size) (fun x hx hl => (put_far _ _ _ _ (by first | omega | (simp at hx ⊢; omega))).trans (((gb_trans g37 g40)).block x hl (by intro e; injection e with e; first | omega | (simp at hx; omega))))
      have FIN : Hid (BinAt w (putRow (w6) (w2.heap.size + 1) (⟨37, ⟨#[]⟩, 0, false, some ⟨w5.heap.size, 0, none⟩, 2, 2, (tk.p : Int)⟩ : Nc).cells) b g cap L o P tk n1 n2 t2 i w2.heap.size (w2.heap.size + 1)) := ⟨w5.heap.size, i5, SY, ht5, hi5, rowNd_put _ _ _ rm43, room_keep rm43 _ rfl, m6, hY.1, n8, bin_made ⟨hP2 _ (by first | omega | (simp; done) | (simp; omega)), db, by first | omega | (simp; done) | (simp; omega)⟩ mb m1 m2⟩
      have HY : Hid (rowAt (putRow (w6) (w2.heap.size + 1) (⟨37, ⟨#[]⟩, 0, false, some ⟨w5.heap.size, 0, none⟩, 2, 2, (tk.p : Int)⟩ : Nc).cells) w2.heap.size = some tk.tk.cells ∧ rowAt (putRow (w6) (w2.heap.size + 1) (⟨37, ⟨#[]⟩, 0, false, some ⟨w5.heap.size, 0, none⟩, 2, 2, (tk.p : Int)⟩ : Nc).cells) w.heap.size = some c.cells) := hY
      clear SY m6 mb gw m1 m2 hY n8 d7 d4 d6 db n5 s5 ht5 hi5 g31 g34 g37 g40 S42
      go_simp
      refine hK.out _ _ HY.out (fun _ => ?_)
      clear hK K
      refine wpAnyH_done (by kernel_rfl) ?_ _
      go_wp2_with fail
      go_meet
      exact ⟨_, rfl, FIN.out⟩
  case rest =>
    obtain ⟨q, rfl, blk, i', SY, ht, hi, ry, my, m6, r7, n8, nd⟩ := hcut
    have c7 := rowAt_cell r7
    have cy := rowAt_cell ry
    have fy : ∀ j, j < 6 → wc.frozen? ⟨q, j, none⟩ = false := fun j hj => by have := (room_there my j hj).2; rwa [Nat.zero_add] at this
    have fy1 := fy 1 (by omega)
    have ry2 : rowAt (wc.setCell ⟨q, 1, none⟩ (.string tk.tk.t)) q = some (⟨37, tk.tk.t, 0, false, some ⟨blk, 0, none⟩, 2, 2, (tk.p : Int)⟩ : Nc).cells := rowAt_set _ _ _ _ _ ry
    have my2 : roomAt (wc.setCell ⟨q, 1, none⟩ (.string tk.tk.t)) (w.heap.size + 1) 6 = true := (roomAt_far _ _ _ _ _ (by show w.heap.size + 1 ≠ q; omega)).trans m6
    have FS : Hid (St w (putRow (wc.setCell ⟨q, 1, none⟩ (.string tk.tk.t)) (w.heap.size + 1) (⟨37, tk.tk.t, 0, false, some ⟨blk, 0, none⟩, 2, 2, (tk.p : Int)⟩ : Nc).cells) b g cap L i' o) := (SY.far bl gl q 1 (by omega) _).old bl gl _ (by omega) _
    have FN : Hid (NdAt (putRow (wc.setCell ⟨q, 1, none⟩ (.string tk.tk.t)) (w.heap.size + 1) (⟨37, tk.tk.t, 0, false, some ⟨blk, 0, none⟩, 2, 2, (tk.p : Int)⟩ : Nc).cells) P ⟨37, bs tk.t, 0, false, some ⟨blk, 0, none⟩, 2, 2, (tk.p : Int)⟩ (binN tk n1 n2)) := nd.keep (fun x hx _ => hx.1) (by rw [size_put]; simp) (fun x hx hl => (put_far _ _ _ _ hx.2.2).trans (Below.heap_setCell _ _ _ _ hx.2.1))
    have HT : Hid (t2 = L.drop i' ∧ i + 1 < i') := ⟨ht, hi⟩
    clear nd SY ht hi fy HC HF PA S3 S2 s2 r4 p6 hs2 ry my r7 m6
    go_wp2_with fail
    exact ret_cell1 rfl rfl (loadNd_row (rowNd_put _ _ _ my2)) rfl ⟨_, i', rfl, HT.out.1, HT.out.2, FS.out, FN.out⟩
end Go.Proofs.YtllhcjmabhempaaDoor
