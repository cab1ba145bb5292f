/-
  Layer 9: a sign ahead of an operand.
-/
import Derived.Test.YtllhcjmabhempaaDoorNds
import Derived.Deep.DeepCutAuto
namespace Go.Proofs.YtllhcjmabhempaaDoor
set_option linter.unusedVariables false
set_option linter.unusedSimpArgs false
open Go.ChangeShapes Go.WideShapes Go.ChangeAt Go.RowKit


attribute [local go_sem] fieldTk0 fieldTk3
attribute [local go_sem ↓] bslNd_seal
attribute [local go_sem] bslNd1_run bslNd2_run

theorem hold1_gb {X Y : World} {b q7 : Nat} {u : Array Value} (h : rowAt X q7 = some u) (hg : X.grownBy Y (some b)) (h7 : q7 ≠ b) : rowAt Y q7 = some u := by
  have e7 := hg.block q7 (row_lt h) (fun e => h7 (by injection e))
  unfold rowAt at h ⊢; rw [e7]; exact h
theorem un_made {Y : World} {P : Nat → Prop} {blk : Nat} {d : Nc} {n2 : Nd} {tk : Tok} (hP : P blk) (hb : Y.heap[blk]? = some (.cells d.cells 31 (0, 0))) (h2 : NdAt Y P d n2) : NdAt Y P ⟨36, bs tk.t, 0, false, some ⟨blk, 0, none⟩, 1, 1, (tk.p : Int)⟩ (unN tk n2) := by
  have hl : blk < Y.heap.size := (Array.getElem?_eq_some_iff.1 hb).1
  refine NdAt.mk 36 tk.t 0 false [n2] tk.p _ 1 (KidsAt.cons blk 0 d n2 [] hP hl (fun i hi => ?_) h2 (KidsAt.nil _ _))
  simp [World.cell?, hb]
def UnAt (w Y : World) (b g cap : Nat) (L : List Tok) (o : Nat) (tk : Tok) (n2 : Nd) (t2 : List Tok) (i : Nat) (q7 q : Nat) : Prop := ∃ blk i', St w Y b g cap L i' (o + 1) ∧ t2 = L.drop i' ∧ i + 1 < i' ∧ rowAt Y q = some (⟨36, ⟨#[]⟩, 0, false, some ⟨blk, 0, none⟩, 1, 1, (tk.p : Int)⟩ : Nc).cells ∧ roomAt Y q 6 = true ∧ roomAt Y w.heap.size 6 = true ∧ rowAt Y q7 = some tk.tk.cells ∧ w.heap.size < q ∧ NdAt Y (fun x => w.heap.size ≤ x ∧ x ≠ q ∧ x ≠ w.heap.size) ⟨36, bs tk.t, 0, false, some ⟨blk, 0, none⟩, 1, 1, (tk.p : Int)⟩ (unN tk n2)
set_option maxHeartbeats 4000000 in
set_option maxRecDepth 20000 in
theorem unary_ok_term (w : World) (b g cap : Nat) (L : List Tok) (i o : Nat) (h : RdAt w b g cap L i o) (ho : o < 24) (hk : (hd (L.drop i)).k ≠ 0) (n2 : Nd) (t2 : List Tok)
    (hF : ∀ X, RdAt X b g cap L (i + 1) (o + 1) → Calls Tryd.prog 62 #[.pointer (some ⟨b, 0, none⟩)] X (PostN X b g cap L (i + 1) (o + 1) (.ok n2 t2))) :
    Calls Tryd.prog 73 #[.pointer (some ⟨b, 0, none⟩), .func (.func 62) #[.pointer (some ⟨b, 0, none⟩)] #[]] w (PostN w b g cap L i o (.ok (unN (hd (L.drop i)) n2) t2)) := by
  have PA : Hid (∀ X, RdAt X b g cap L i o → Calls Tryd.prog 76 #[.pointer (some ⟨b, 0, none⟩)] X _) := fun X hX => begin_yes X b g cap L i o hX ho hk
  have H : Hid (RdAt w b g cap L i o) := h
  have HF : Hid (∀ X, RdAt X b g cap L (i + 1) (o + 1) → Calls Tryd.prog 62 #[.pointer (some ⟨b, 0, none⟩)] X (PostN X b g cap L (i + 1) (o + 1) (.ok n2 t2))) := hF
  have bl := h.bl
  have gl := h.gl
  clear h hk hF
  obtain ⟨tk, htk⟩ : ∃ tk, tk = hd (L.drop i) := ⟨_, rfl⟩
  rw [← htk] at PA ⊢
  clear htk
  go_enter Tryd.func73, Tryd.ntmps73
  go_upto_region 2 with (go_at_call 76; refine (PA.out _ (H.out.alloc _)).mono ?_; rintro e w2 ⟨rfl, s2⟩)
  have S2 : St w w2 b g cap L (i + 1) (o + 1) := ((St.refl H.out).alloc _).next s2
  have hs2 := s2.size
  simp at hs2
  have p6 : roomAt w2 w.heap.size 6 = true := (s2.room (by simp) (by omega) 6).trans (roomNd_new _ _ _ _ (by simp))
  have S3 := (S2.alloc (.cells tk.tk.cells 41)).drew
  have hq7 : w2.heap.size ≠ b := by omega
  go_cut [6] (fun s8 Y => ∃ q, s8 = .pointer (some ⟨q, 0, none⟩) ∧ UnAt w Y b g cap L o tk n2 t2 i w2.heap.size q)
  case first =>
    refine wp_region_held_drew (S := (fun X => rowAt X w2.heap.size = some tk.tk.cells)) (by kernel_rfl) ((rowAt_drew _ _).trans (rowAt_at _ _ _ _ _ rfl)) (fun hHeld => ?_)
    refine wpAnyH_take (i := 0) (v := ?_) rfl (by kernel_rfl) (by kernel_rfl) (by kernel_rfl) (fun _ _ _ h => h) (Or.inl ⟨by rfl, ?y0⟩) hHeld ?r0
    case y0 => (intro w2 hSw; (try dsimp only at hSw); go_simp; try rfl)
    simp only [Act.put, List.setIfInBounds_toArray, List.set_cons_zero, List.set_cons_succ]
    refine wpAnyH_take (i := 1) (v := ?_) rfl (by kernel_rfl) (by kernel_rfl) (by kernel_rfl) (fun _ _ _ h => h) (Or.inl ⟨by rfl, ?y1⟩) hHeld ?r1
    case y1 => (intro w2 hSw; (try dsimp only at hSw); have c3 := rowAt_cell hSw 3; go_simp; try rfl)
    simp only [Act.put, List.setIfInBounds_toArray, List.set_cons_zero, List.set_cons_succ]
    refine wpAnyH_take (i := 2) (v := ?_) rfl (by kernel_rfl) (by kernel_rfl) (by kernel_rfl) (fun _ _ _ h => h) (Or.inl ⟨by rfl, ?y2⟩) hHeld ?r2
    case y2 => (intro w2 hSw; (try dsimp only at hSw); go_simp; try rfl)
    simp only [Act.put, List.setIfInBounds_toArray, List.set_cons_zero, List.set_cons_succ]
    refine wpAnyH_ready (rs := [3, 6]) (by kernel_rfl) (by simp) ?_
    refine .cons rfl (fun K hK => ?_) (.cons rfl (fun K hK => ?_) .nil)
    · go_simp
      go_wp2_with (go_at_call 62; refine (HF.out _ S3.rd).mono ?_; rintro e w5 ⟨c5, i5, rfl, ht5, hi5, s5, n5⟩)
      have g1 : ((w2.alloc (.cells tk.tk.cells 41)).drew).grownBy (w5) (some b) := s5.gb
      have z5 := g1.size
      simp at z5
      have hh2 := hold1_gb hHeld g1 hq7
      refine hK.out _ _ hh2 (fun _ => ?_)
      clear hK K
      have S3 := S3.next s5
      refine wpAnyH_ready (rs := [4, 6]) (by kernel_rfl) (by simp) ?_
      refine .cons rfl (fun K hK => ?_) (.cons rfl (fun K hK => ?_) .nil)
      · go_simp
        have g4 : (w5).grownBy ((w5).alloc (.cells (c5.cells) 31)) (some b) := gb_of_below (by go_grown) b
        have hh5 := hold1_gb hh2 g4 hq7
        refine hK.out _ _ hh5 (fun _ => ?_)
        clear hK K
        have S6 := S3.alloc (.cells (c5.cells) 31)
        refine wpAnyH_ready (rs := [5, 6]) (by kernel_rfl) (by simp) ?_
        refine .cons rfl (fun K hK => ?_) (.cons rfl (fun K hK => ?_) .nil)
        · go_simp
          go_wp2_with (go_at_call 59; refine (node_any _ _ _ _ _ _).mono ?_; rintro e w6 ⟨rfl, hb6⟩)
          have g7 : ((w5).alloc (.cells (c5.cells) 31)).grownBy (w6) (some b) := gb_of_below hb6 b
          have z6 := g7.size
          simp at z6
          have hh8 := hold1_gb hh5 g7 hq7
          refine hK.out _ _ hh8 (fun _ => ?_)
          clear hK K
          have S9 := S6.below hb6
          refine wpAnyH_ready (rs := [6]) (by kernel_rfl) (by simp) ?_
          refine .cons rfl (fun K hK => ?_) .nil
          go_simp
          have g10 : (w6).grownBy ((w6).alloc (.cells (⟨0, ⟨#[]⟩, 0, false, none, 0, 0, 0⟩ : Nc).cells 31)) (some b) := gb_of_below (by go_grown) b
          have hh11 := hold1_gb hh8 g10 hq7
          refine hK.out _ _ hh11 (fun _ => ?_)
          clear hK K
          have S12 := S9.alloc (.cells (⟨0, ⟨#[]⟩, 0, false, none, 0, 0, 0⟩ : Nc).cells 31)
          refine wpAnyH_ready (rs := [7]) (by kernel_rfl) (by simp) ?_
          refine .cons rfl (fun K hK => ?_) .nil
          have rm13 : roomAt ((w6).alloc (.cells (⟨0, ⟨#[]⟩, 0, false, none, 0, 0, 0⟩ : Nc).cells 31)) (w6.heap.size) 6 = true := roomNd_new _ _ _ _ (by simp)
          have n8 : w.heap.size < w6.heap.size := by first | omega | (simp; done) | (simp; omega)
          have d7 : w2.heap.size ≠ w6.heap.size := by first | omega | (simp; done) | (simp; omega)
          have d6 : w.heap.size ≠ w6.heap.size := by omega
          have db : w5.heap.size ≠ w6.heap.size := by first | omega | (simp; done) | (simp; omega)
          have hY : rowAt (putRow ((w6).alloc (.cells (⟨0, ⟨#[]⟩, 0, false, none, 0, 0, 0⟩ : Nc).cells 31)) (w6.heap.size) (⟨36, ⟨#[]⟩, 0, false, some ⟨w5.heap.size, 0, none⟩, 1, 1, (tk.p : Int)⟩ : Nc).cells) w2.heap.size = some tk.tk.cells := (row_far _ _ _ _ d7).trans hh11
          have SY : St w (putRow ((w6).alloc (.cells (⟨0, ⟨#[]⟩, 0, false, none, 0, 0, 0⟩ : Nc).cells 31)) (w6.heap.size) (⟨36, ⟨#[]⟩, 0, false, some ⟨w5.heap.size, 0, none⟩, 1, 1, (tk.p : Int)⟩ : Nc).cells) b g cap L i5 (o + 1) := S12.old bl gl _ (by omega) _
          have m6 : roomAt (putRow ((w6).alloc (.cells (⟨0, ⟨#[]⟩, 0, false, none, 0, 0, 0⟩ : Nc).cells 31)) (w6.heap.size) (⟨36, ⟨#[]⟩, 0, false, some ⟨w5.heap.size, 0, none⟩, 1, 1, (tk.p : Int)⟩ : Nc).cells) w.heap.size 6 = true := (room_far _ _ _ _ _ d6).trans ((room_gb (gb_trans (gb_trans (gb_trans g1 g4) g7) g10) (by first | omega | (simp; done) | (simp; omega)) (by omega) 6).trans ((roomAt_drew _ _ _).trans ((roomAt_old _ _ _ _ (by omega)).trans p6)))
          have mb : (putRow ((w6).alloc (.cells (⟨0, ⟨#[]⟩, 0, false, none, 0, 0, 0⟩ : Nc).cells 31)) (w6.heap.size) (⟨36, ⟨#[]⟩, 0, false, some ⟨w5.heap.size, 0, none⟩, 1, 1, (tk.p : Int)⟩ : Nc).cells).heap[w5.heap.size]? = some (.cells (c5.cells) 31 (0, 0)) := (put_far _ _ _ _ db).trans ((((gb_trans g7 g10)).block (w5.heap.size) (by first | omega | (simp; done) | (simp; omega)) (by intro e; injection e with e; first | omega | (simp at e; omega))).trans (heap_new' _ _ (by simp)))
          have m2 : NdAt (putRow ((w6).alloc (.cells (⟨0, ⟨#[]⟩, 0, false, none, 0, 0, 0⟩ : Nc).cells 31)) (w6.heap.size) (⟨36, ⟨#[]⟩, 0, false, some ⟨w5.heap.size, 0, none⟩, 1, 1, (tk.p : Int)⟩ : Nc).cells) (fun x => w.heap.size ≤ x ∧ x ≠ w6.heap.size ∧ x ≠ w.heap.size) c5 n2 := n5.keep (fun x hx hl => ⟨by first | omega | (simp at hx; omega), by first | omega | (simp at hx ⊢; omega), by first | omega | (simp at hx; omega)⟩) (by rw [size_put]; exact ((gb_trans (gb_trans g4 g7) g10)).size) (fun x hx hl => (put_far _ _ _ _ (by first | omega | (simp at hx ⊢; omega))).trans (((gb_trans (gb_trans g4 g7) g10)).block x hl (by intro e; injection e with e; first | omega | (simp at hx; omega))))
          have FIN : Hid (UnAt w (putRow ((w6).alloc (.cells (⟨0, ⟨#[]⟩, 0, false, none, 0, 0, 0⟩ : Nc).cells 31)) (w6.heap.size) (⟨36, ⟨#[]⟩, 0, false, some ⟨w5.heap.size, 0, none⟩, 1, 1, (tk.p : Int)⟩ : Nc).cells) b g cap L o tk n2 t2 i w2.heap.size (w6.heap.size)) := ⟨w5.heap.size, i5, SY, ht5, hi5, rowNd_put _ _ _ rm13, room_keep rm13 _ rfl, m6, hY, n8, un_made ⟨by first | omega | (simp; done) | (simp; omega), db, by first | omega | (simp; done) | (simp; omega)⟩ mb m2⟩
          have HY : Hid (rowAt (putRow ((w6).alloc (.cells (⟨0, ⟨#[]⟩, 0, false, none, 0, 0, 0⟩ : Nc).cells 31)) (w6.heap.size) (⟨36, ⟨#[]⟩, 0, false, some ⟨w5.heap.size, 0, none⟩, 1, 1, (tk.p : Int)⟩ : Nc).cells) w2.heap.size = some tk.tk.cells) := hY
          clear SY m6 mb m2 hY n8 d7 d6 db n5 s5 ht5 hi5 g1 g4 g7 g10 S12
          rw [putNd_new _ _ _ _ _ (by simp)] at FIN HY
          go_simp
          refine hK.out _ _ HY.out (fun _ => ?_)
          clear hK K
          refine wpAnyH_done (by kernel_rfl) ?_ _
          go_wp2_with fail
          go_meet
          exact ⟨_, rfl, FIN.out⟩
        · go_simp
          have g14 : ((w5).alloc (.cells (c5.cells) 31)).grownBy (((w5).alloc (.cells (c5.cells) 31)).alloc (.cells (⟨0, ⟨#[]⟩, 0, false, none, 0, 0, 0⟩ : Nc).cells 31)) (some b) := gb_of_below (by go_grown) b
          have hh15 := hold1_gb hh5 g14 hq7
          refine hK.out _ _ hh15 (fun _ => ?_)
          clear hK K
          have S16 := S6.alloc (.cells (⟨0, ⟨#[]⟩, 0, false, none, 0, 0, 0⟩ : Nc).cells 31)
          refine wpAnyH_ready (rs := [5]) (by kernel_rfl) (by simp) ?_
          refine .cons rfl (fun K hK => ?_) .nil
          go_simp
          go_wp2_with (go_at_call 59; refine (node_any _ _ _ _ _ _).mono ?_; rintro e w6 ⟨rfl, hb6⟩)
          have g17 : (((w5).alloc (.cells (c5.cells) 31)).alloc (.cells (⟨0, ⟨#[]⟩, 0, false, none, 0, 0, 0⟩ : Nc).cells 31)).grownBy (w6) (some b) := gb_of_below hb6 b
          have z6 := g17.size
          simp at z6
          have hh18 := hold1_gb hh15 g17 hq7
          refine hK.out _ _ hh18 (fun _ => ?_)
          clear hK K
          have S19 := S16.below hb6
          refine wpAnyH_ready (rs := [7]) (by kernel_rfl) (by simp) ?_
          refine .cons rfl (fun K hK => ?_) .nil
          have rm20 : roomAt (w6) (w5.heap.size + 1) 6 = true := (room_gb g17 (by first | omega | (simp; done) | (simp; omega)) (by first | omega | (simp; done) | (simp; omega)) 6).trans (roomNd_new _ _ _ _ (by simp))
          have n8 : w.heap.size < w5.heap.size + 1 := by first | omega | (simp; done) | (simp; omega)
          have d7 : w2.heap.size ≠ w5.heap.size + 1 := by first | omega | (simp; done) | (simp; omega)
          have d6 : w.heap.size ≠ w5.heap.size + 1 := by omega
          have db : w5.heap.size ≠ w5.heap.size + 1 := by first | omega | (simp; done) | (simp; omega)
          have hY : rowAt (putRow (w6) (w5.heap.size + 1) (⟨36, ⟨#[]⟩, 0, false, some ⟨w5.heap.size, 0, none⟩, 1, 1, (tk.p : Int)⟩ : Nc).cells) w2.heap.size = some tk.tk.cells := (row_far _ _ _ _ d7).trans hh18
          have SY : St w (putRow (w6) (w5.heap.size + 1) (⟨36, ⟨#[]⟩, 0, false, some ⟨w5.heap.size, 0, none⟩, 1, 1, (tk.p : Int)⟩ : Nc).cells) b g cap L i5 (o + 1) := S19.old bl gl _ (by omega) _
          have m6 : roomAt (putRow (w6) (w5.heap.size + 1) (⟨36, ⟨#[]⟩, 0, false, some ⟨w5.heap.size, 0, none⟩, 1, 1, (tk.p : Int)⟩ : Nc).cells) w.heap.size 6 = true := (room_far _ _ _ _ _ d6).trans ((room_gb (gb_trans (gb_trans (gb_trans g1 g4) g14) g17) (by first | omega | (simp; done) | (simp; omega)) (by omega) 6).trans ((roomAt_drew _ _ _).trans ((roomAt_old _ _ _ _ (by omega)).trans p6)))
          have mb : (putRow (w6) (w5.heap.size + 1) (⟨36, ⟨#[]⟩, 0, false, some ⟨w5.heap.size, 0, none⟩, 1, 1, (tk.p : Int)⟩ : Nc).cells).heap[w5.heap.size]? = some (.cells (c5.cells) 31 (0, 0)) := (put_far _ _ _ _ db).trans ((((gb_trans g14 g17)).block (w5.heap.size) (by first | omega | (simp; done) | (simp; omega)) (by intro e; injection e with e; first | omega | (simp at e; omega))).trans (heap_new' _ _ (by simp)))
          have m2 : NdAt (putRow (w6) (w5.heap.size + 1) (⟨36, ⟨#[]⟩, 0, false, some ⟨w5.heap.size, 0, none⟩, 1, 1, (tk.p : Int)⟩ : Nc).cells) (fun x => w.heap.size ≤ x ∧ x ≠ w5.heap.size + 1 ∧ x ≠ w.heap.size) c5 n2 := n5.keep (fun x hx hl => ⟨by first | omega | (simp at hx; omega), by first | omega | (simp at hx ⊢; omega), by first | omega | (simp at hx; omega)⟩) (by rw [size_put]; exact ((gb_trans (gb_trans g4 g14) g17)).size) (fun x hx hl => (put_far _ _ _ _ (by first | omega | (simp at hx ⊢; omega))).trans (((gb_trans (gb_trans g4 g14) g17)).block x hl (by intro e; injection e with e; first | omega | (simp at hx; omega))))
          have FIN : Hid (UnAt w (putRow (w6) (w5.heap.size + 1) (⟨36, ⟨#[]⟩, 0, false, some ⟨w5.heap.size, 0, none⟩, 1, 1, (tk.p : Int)⟩ : Nc).cells) b g cap L o tk n2 t2 i w2.heap.size (w5.heap.size + 1)) := ⟨w5.heap.size, i5, SY, ht5, hi5, rowNd_put _ _ _ rm20, room_keep rm20 _ rfl, m6, hY, n8, un_made ⟨by first | omega | (simp; done) | (simp; omega), db, by first | omega | (simp; done) | (simp; omega)⟩ mb m2⟩
          have HY : Hid (rowAt (putRow (w6) (w5.heap.size + 1) (⟨36, ⟨#[]⟩, 0, false, some ⟨w5.heap.size, 0, none⟩, 1, 1, (tk.p : Int)⟩ : Nc).cells) w2.heap.size = some tk.tk.cells) := hY
          clear SY m6 mb m2 hY n8 d7 d6 db n5 s5 ht5 hi5 g1 g4 g14 g17 S19
          go_simp
          refine hK.out _ _ HY.out (fun _ => ?_)
          clear hK K
          refine wpAnyH_done (by kernel_rfl) ?_ _
          go_wp2_with fail
          go_meet
          exact ⟨_, rfl, FIN.out⟩
      · go_simp
        have g21 : (w5).grownBy ((w5).alloc (.cells (⟨0, ⟨#[]⟩, 0, false, none, 0, 0, 0⟩ : Nc).cells 31)) (some b) := gb_of_below (by go_grown) b
        have hh22 := hold1_gb hh2 g21 hq7
        refine hK.out _ _ hh22 (fun _ => ?_)
        clear hK K
        have S23 := S3.alloc (.cells (⟨0, ⟨#[]⟩, 0, false, none, 0, 0, 0⟩ : Nc).cells 31)
        refine wpAnyH_ready (rs := [4]) (by kernel_rfl) (by simp) ?_
        refine .cons rfl (fun K hK => ?_) .nil
        go_simp
        have g24 : ((w5).alloc (.cells (⟨0, ⟨#[]⟩, 0, false, none, 0, 0, 0⟩ : Nc).cells 31)).grownBy (((w5).alloc (.cells (⟨0, ⟨#[]⟩, 0, false, none, 0, 0, 0⟩ : Nc).cells 31)).alloc (.cells (c5.cells) 31)) (some b) := gb_of_below (by go_grown) b
        have hh25 := hold1_gb hh22 g24 hq7
        refine hK.out _ _ hh25 (fun _ => ?_)
        clear hK K
        have S26 := S23.alloc (.cells (c5.cells) 31)
        refine wpAnyH_ready (rs := [5]) (by kernel_rfl) (by simp) ?_
        refine .cons rfl (fun K hK => ?_) .nil
        go_simp
        go_wp2_with (go_at_call 59; refine (node_any _ _ _ _ _ _).mono ?_; rintro e w6 ⟨rfl, hb6⟩)
        have g27 : (((w5).alloc (.cells (⟨0, ⟨#[]⟩, 0, false, none, 0, 0, 0⟩ : Nc).cells 31)).alloc (.cells (c5.cells) 31)).grownBy (w6) (some b) := gb_of_below hb6 b
        have z6 := g27.size
        simp at z6
        have hh28 := hold1_gb hh25 g27 hq7
        refine hK.out _ _ hh28 (fun _ => ?_)
        clear hK K
        have S29 := S26.below hb6
        refine wpAnyH_ready (rs := [7]) (by kernel_rfl) (by simp) ?_
        refine .cons rfl (fun K hK => ?_) .nil
        have rm30 : roomAt (w6) (w5.heap.size) 6 = true := (room_gb (gb_trans g24 g27) (by first | omega | (simp; done) | (simp; omega)) (by first | omega | (simp; done) | (simp; omega)) 6).trans (roomNd_new _ _ _ _ (by simp))
        have n8 : w.heap.size < w5.heap.size := by first | omega | (simp; done) | (simp; omega)
        have d7 : w2.heap.size ≠ w5.heap.size := by first | omega | (simp; done) | (simp; omega)
        have d6 : w.heap.size ≠ w5.heap.size := by omega
        have db : w5.heap.size + 1 ≠ w5.heap.size := by first | omega | (simp; done) | (simp; omega)
        have hY : rowAt (putRow (w6) (w5.heap.size) (⟨36, ⟨#[]⟩, 0, false, some ⟨w5.heap.size + 1, 0, none⟩, 1, 1, (tk.p : Int)⟩ : Nc).cells) w2.heap.size = some tk.tk.cells := (row_far _ _ _ _ d7).trans hh28
        have SY : St w (putRow (w6) (w5.heap.size) (⟨36, ⟨#[]⟩, 0, false, some ⟨w5.heap.size + 1, 0, none⟩, 1, 1, (tk.p : Int)⟩ : Nc).cells) b g cap L i5 (o + 1) := S29.old bl gl _ (by omega) _
        have m6 : roomAt (putRow (w6) (w5.heap.size) (⟨36, ⟨#[]⟩, 0, false, some ⟨w5.heap.size + 1, 0, none⟩, 1, 1, (tk.p : Int)⟩ : Nc).cells) w.heap.size 6 = true := (room_far _ _ _ _ _ d6).trans ((room_gb (gb_trans (gb_trans (gb_trans g1 g21) g24) g27) (by first | omega | (simp; done) | (simp; omega)) (by omega) 6).trans ((roomAt_drew _ _ _).trans ((roomAt_old _ _ _ _ (by omega)).trans p6)))
        have mb : (putRow (w6) (w5.heap.size) (⟨36, ⟨#[]⟩, 0, false, some ⟨w5.heap.size + 1, 0, none⟩, 1, 1, (tk.p : Int)⟩ : Nc).cells).heap[w5.heap.size + 1]? = some (.cells (c5.cells) 31 (0, 0)) := (put_far _ _ _ _ db).trans (((g27).block (w5.heap.size + 1) (by first | omega | (simp; done) | (simp; omega)) (by intro e; injection e with e; first | omega | (simp at e; omega))).trans (heap_new' _ _ (by simp)))
        have m2 : NdAt (putRow (w6) (w5.heap.size) (⟨36, ⟨#[]⟩, 0, false, some ⟨w5.heap.size + 1, 0, none⟩, 1, 1, (tk.p : Int)⟩ : Nc).cells) (fun x => w.heap.size ≤ x ∧ x ≠ w5.heap.size ∧ x ≠ w.heap.size) c5 n2 := n5.keep (fun x hx hl => ⟨by first | omega | (simp at hx; omega), by first | omega | (simp at hx ⊢; omega), by first | omega | (simp at hx; omega)⟩) (by rw [size_put]; exact ((gb_trans (gb_trans g21 g24) g27)).size) (fun x hx hl => (put_far _ _ _ _ (by first | omega | (simp at hx ⊢; omega))).trans (((gb_trans (gb_trans g21 g24) g27)).block x hl (by intro e; injection e with e; first | omega | (simp at hx; omega))))
        have FIN : Hid (UnAt w (putRow (w6) (w5.heap.size) (⟨36, ⟨#[]⟩, 0, false, some ⟨w5.heap.size + 1, 0, none⟩, 1, 1, (tk.p : Int)⟩ : Nc).cells) b g cap L o tk n2 t2 i w2.heap.size (w5.heap.size)) := ⟨w5.heap.size + 1, i5, SY, ht5, hi5, rowNd_put _ _ _ rm30, room_keep rm30 _ rfl, m6, hY, n8, un_made ⟨by first | omega | (simp; done) | (simp; omega), db, by first | omega | (simp; done) | (simp; omega)⟩ mb m2⟩
        have HY : Hid (rowAt (putRow (w6) (w5.heap.size) (⟨36, ⟨#[]⟩, 0, false, some ⟨w5.heap.size + 1, 0, none⟩, 1, 1, (tk.p : Int)⟩ : Nc).cells) w2.heap.size = some tk.tk.cells) := hY
        clear SY m6 mb m2 hY n8 d7 d6 db n5 s5 ht5 hi5 g1 g21 g24 g27 S29
        go_simp
        refine hK.out _ _ HY.out (fun _ => ?_)
        clear hK K
        refine wpAnyH_done (by kernel_rfl) ?_ _
        go_wp2_with fail
        go_meet
        exact ⟨_, rfl, FIN.out⟩
    · go_simp
      have g31 : ((w2.alloc (.cells tk.tk.cells 41)).drew).grownBy (((w2.alloc (.cells tk.tk.cells 41)).drew).alloc (.cells (⟨0, ⟨#[]⟩, 0, false, none, 0, 0, 0⟩ : Nc).cells 31)) (some b) := gb_of_below (by go_grown) b
      have hh32 := hold1_gb hHeld g31 hq7
      refine hK.out _ _ hh32 (fun _ => ?_)
      clear hK K
      have S33 := S3.alloc (.cells (⟨0, ⟨#[]⟩, 0, false, none, 0, 0, 0⟩ : Nc).cells 31)
      refine wpAnyH_ready (rs := [3]) (by kernel_rfl) (by simp) ?_
      refine .cons rfl (fun K hK => ?_) .nil
      go_simp
      go_wp2_with (go_at_call 62; refine (HF.out _ S33.rd).mono ?_; rintro e w5 ⟨c5, i5, rfl, ht5, hi5, s5, n5⟩)
      have g34 : (((w2.alloc (.cells tk.tk.cells 41)).drew).alloc (.cells (⟨0, ⟨#[]⟩, 0, false, none, 0, 0, 0⟩ : Nc).cells 31)).grownBy (w5) (some b) := s5.gb
      have z5 := g34.size
      simp at z5
      have hh35 := hold1_gb hh32 g34 hq7
      refine hK.out _ _ hh35 (fun _ => ?_)
      clear hK K
      have S36 := S33.next s5
      refine wpAnyH_ready (rs := [4]) (by kernel_rfl) (by simp) ?_
      refine .cons rfl (fun K hK => ?_) .nil
      go_simp
      have g37 : (w5).grownBy ((w5).alloc (.cells (c5.cells) 31)) (some b) := gb_of_below (by go_grown) b
      have hh38 := hold1_gb hh35 g37 hq7
      refine hK.out _ _ hh38 (fun _ => ?_)
      clear hK K
      have S39 := S36.alloc (.cells (c5.cells) 31)
      refine wpAnyH_ready (rs := [5]) (by kernel_rfl) (by simp) ?_
      refine .cons rfl (fun K hK => ?_) .nil
      go_simp
      go_wp2_with (go_at_call 59; refine (node_any _ _ _ _ _ _).mono ?_; rintro e w6 ⟨rfl, hb6⟩)
      have g40 : ((w5).alloc (.cells (c5.cells) 31)).grownBy (w6) (some b) := gb_of_below hb6 b
      have z6 := g40.size
      simp at z6
      have hh41 := hold1_gb hh38 g40 hq7
      refine hK.out _ _ hh41 (fun _ => ?_)
      clear hK K
      have S42 := S39.below hb6
      refine wpAnyH_ready (rs := [7]) (by kernel_rfl) (by simp) ?_
      refine .cons rfl (fun K hK => ?_) .nil
      have rm43 : roomAt (w6) (w2.heap.size + 1) 6 = true := (room_gb (gb_trans (gb_trans g34 g37) g40) (by first | omega | (simp; done) | (simp; omega)) (by first | omega | (simp; done) | (simp; omega)) 6).trans (roomNd_new _ _ _ _ (by simp))
      have n8 : w.heap.size < w2.heap.size + 1 := by first | omega | (simp; done) | (simp; omega)
      have d7 : w2.heap.size ≠ w2.heap.size + 1 := by first | omega | (simp; done) | (simp; omega)
      have d6 : w.heap.size ≠ w2.heap.size + 1 := by omega
      have db : w5.heap.size ≠ w2.heap.size + 1 := by first | omega | (simp; done) | (simp; omega)
      have hY : rowAt (putRow (w6) (w2.heap.size + 1) (⟨36, ⟨#[]⟩, 0, false, some ⟨w5.heap.size, 0, none⟩, 1, 1, (tk.p : Int)⟩ : Nc).cells) w2.heap.size = some tk.tk.cells := (row_far _ _ _ _ d7).trans hh41
      have SY : St w (putRow (w6) (w2.heap.size + 1) (⟨36, ⟨#[]⟩, 0, false, some ⟨w5.heap.size, 0, none⟩, 1, 1, (tk.p : Int)⟩ : Nc).cells) b g cap L i5 (o + 1) := S42.old bl gl _ (by omega) _
      have m6 : roomAt (putRow (w6) (w2.heap.size + 1) (⟨36, ⟨#[]⟩, 0, false, some ⟨w5.heap.size, 0, none⟩, 1, 1, (tk.p : Int)⟩ : Nc).cells) w.heap.size 6 = true := (room_far _ _ _ _ _ d6).trans ((room_gb (gb_trans (gb_trans (gb_trans g31 g34) g37) g40) (by first | omega | (simp; done) | (simp; omega)) (by omega) 6).trans ((roomAt_drew _ _ _).trans ((roomAt_old _ _ _ _ (by omega)).trans p6)))
      have mb : (putRow (w6) (w2.heap.size + 1) (⟨36, ⟨#[]⟩, 0, false, some ⟨w5.heap.size, 0, none⟩, 1, 1, (tk.p : Int)⟩ : Nc).cells).heap[w5.heap.size]? = some (.cells (c5.cells) 31 (0, 0)) := (put_far _ _ _ _ db).trans (((g40).block (w5.heap.size) (by first | omega | (simp; done) | (simp; omega)) (by intro e; injection e with e; first | omega | (simp at e; omega))).trans (heap_new' _ _ (by simp)))
      have m2 : NdAt (putRow (w6) (w2.heap.size + 1) (⟨36, ⟨#[]⟩, 0, false, some ⟨w5.heap.size, 0, none⟩, 1, 1, (tk.p : Int)⟩ : Nc).cells) (fun x => w.heap.size ≤ x ∧ x ≠ w2.heap.size + 1 ∧ x ≠ w.heap.size) c5 n2 := n5.keep (fun x hx hl => ⟨by first | omega | (simp at hx; omega), by first | omega | (simp at hx ⊢; omega), by first | omega | (simp at hx; omega)⟩) (by rw [size_put]; exact ((gb_trans g37 g40)).size) (fun x hx hl => (put_far _ _ _ _ (by first | omega | (simp at hx ⊢; omega))).trans (((gb_trans g37 g40)).block x hl (by intro e; injection e with e; first | omega | (simp at hx; omega))))
      have FIN : Hid (UnAt w (putRow (w6) (w2.heap.size + 1) (⟨36, ⟨#[]⟩, 0, false, some ⟨w5.heap.size, 0, none⟩, 1, 1, (tk.p : Int)⟩ : Nc).cells) b g cap L o tk n2 t2 i w2.heap.size (w2.heap.size + 1)) := ⟨w5.heap.size, i5, SY, ht5, hi5, rowNd_put _ _ _ rm43, room_keep rm43 _ rfl, m6, hY, n8, un_made ⟨by first | omega | (simp; done) | (simp; omega), db, by first | omega | (simp; done) | (simp; omega)⟩ mb m2⟩
      have HY : Hid (rowAt (putRow (w6) (w2.heap.size + 1) (⟨36, ⟨#[]⟩, 0, false, some ⟨w5.heap.size, 0, none⟩, 1, 1, (tk.p : Int)⟩ : Nc).cells) w2.heap.size = some tk.tk.cells) := hY
      clear SY m6 mb m2 hY n8 d7 d6 db n5 s5 ht5 hi5 g31 g34 g37 g40 S42
      go_simp
      refine hK.out _ _ HY.out (fun _ => ?_)
      clear hK K
      refine wpAnyH_done (by kernel_rfl) ?_ _
      go_wp2_with fail
      go_meet
      exact ⟨_, rfl, FIN.out⟩
  case rest =>
    obtain ⟨q, rfl, blk, i', SY, ht, hi, ry, my, m6, r7, n8, nd⟩ := hcut
    have c7 := rowAt_cell r7
    have cy := rowAt_cell ry
    have fy1 : wc.frozen? ⟨q, 1, none⟩ = false := by have := (room_there my 1 (by omega)).2; rwa [Nat.zero_add] at this
    have ry2 : rowAt (wc.setCell ⟨q, 1, none⟩ (.string tk.tk.t)) q = some (⟨36, tk.tk.t, 0, false, some ⟨blk, 0, none⟩, 1, 1, (tk.p : Int)⟩ : Nc).cells := rowAt_set _ _ _ _ _ ry
    have my2 : roomAt (wc.setCell ⟨q, 1, none⟩ (.string tk.tk.t)) w.heap.size 6 = true := (roomAt_far _ _ _ _ _ (by show w.heap.size ≠ q; omega)).trans m6
    have FS : St w (wc.setCell ⟨q, 1, none⟩ (.string tk.tk.t)) b g cap L i' (o + 1) := SY.far bl gl q 1 (by omega) _
    have FN : Hid (NdAt (wc.setCell ⟨q, 1, none⟩ (.string tk.tk.t)) (fun x => w.heap.size ≤ x ∧ x ≠ w.heap.size) ⟨36, bs tk.t, 0, false, some ⟨blk, 0, none⟩, 1, 1, (tk.p : Int)⟩ (unN tk n2)) := nd.keep (fun x hx _ => ⟨hx.1, hx.2.2⟩) (by simp) (fun x hx hl => Below.heap_setCell _ _ _ _ hx.2.1)
    have EN := end_any _ b g cap L i' o FS.rd
    have HT : Hid (t2 = L.drop i' ∧ i + 1 < i') := ⟨ht, hi⟩
    have HS : Hid (St w (wc.setCell ⟨q, 1, none⟩ (.string tk.tk.t)) b g cap L i' (o + 1)) := FS
    have ql : q < (wc.setCell ⟨q, 1, none⟩ (.string tk.tk.t)).heap.size := row_lt ry2
    have w0l : w.heap.size < (wc.setCell ⟨q, 1, none⟩ (.string tk.tk.t)).heap.size := by omega
    clear nd SY ht hi HF PA S3 S2 s2 p6 hs2 ry my r7 m6 FS
    go_wp2_with (go_at_call 77; refine EN.mono ?_; rintro e w9 ⟨rfl, s9⟩; have r9 : rowAt w9 q = some _ := (s9.row ql (by omega)).trans ry2; have m9 : roomAt w9 w.heap.size 6 = true := (s9.room w0l (by omega) 6).trans my2)
    exact ret_cell1 rfl rfl (loadNd_row (rowNd_put _ _ _ m9)) rfl ⟨_, i', rfl, HT.out.1, by have := HT.out.2; omega, (HS.out.next s9).old bl gl _ (Nat.le_refl _) _, FN.out.keep (fun x hx _ => hx.1) (by rw [size_put]; exact s9.size) (fun x hx hl => (put_far _ _ _ _ hx.2).trans (s9.gb.block x hl (fun e => by injection e with e; omega)))⟩
set_option maxHeartbeats 4000000 in
set_option maxRecDepth 20000 in
theorem unary_ok_factor (w : World) (b g cap : Nat) (L : List Tok) (i o : Nat) (h : RdAt w b g cap L i o) (ho : o < 24) (hk : (hd (L.drop i)).k ≠ 0) (n2 : Nd) (t2 : List Tok)
    (hF : ∀ X, RdAt X b g cap L (i + 1) (o + 1) → Calls Tryd.prog 74 #[.pointer (some ⟨b, 0, none⟩)] X (PostN X b g cap L (i + 1) (o + 1) (.ok n2 t2))) :
    Calls Tryd.prog 73 #[.pointer (some ⟨b, 0, none⟩), .func (.func 74) #[.pointer (some ⟨b, 0, none⟩)] #[]] w (PostN w b g cap L i o (.ok (unN (hd (L.drop i)) n2) t2)) := by
  have PA : Hid (∀ X, RdAt X b g cap L i o → Calls Tryd.prog 76 #[.pointer (some ⟨b, 0, none⟩)] X _) := fun X hX => begin_yes X b g cap L i o hX ho hk
  have H : Hid (RdAt w b g cap L i o) := h
  have HF : Hid (∀ X, RdAt X b g cap L (i + 1) (o + 1) → Calls Tryd.prog 74 #[.pointer (some ⟨b, 0, none⟩)] X (PostN X b g cap L (i + 1) (o + 1) (.ok n2 t2))) := hF
  have bl := h.bl
  have gl := h.gl
  clear h hk hF
  obtain ⟨tk, htk⟩ : ∃ tk, tk = hd (L.drop i) := ⟨_, rfl⟩
  rw [← htk] at PA ⊢
  clear htk
  go_enter Tryd.func73, Tryd.ntmps73
  go_upto_region 2 with (go_at_call 76; refine (PA.out _ (H.out.alloc _)).mono ?_; rintro e w2 ⟨rfl, s2⟩)
  have S2 : St w w2 b g cap L (i + 1) (o + 1) := ((St.refl H.out).alloc _).next s2
  have hs2 := s2.size
  simp at hs2
  have p6 : roomAt w2 w.heap.size 6 = true := (s2.room (by simp) (by omega) 6).trans (roomNd_new _ _ _ _ (by simp))
  have S3 := (S2.alloc (.cells tk.tk.cells 41)).drew
  have hq7 : w2.heap.size ≠ b := by omega
  go_cut [6] (fun s8 Y => ∃ q, s8 = .pointer (some ⟨q, 0, none⟩) ∧ UnAt w Y b g cap L o tk n2 t2 i w2.heap.size q)
  case first =>
    refine wp_region_held_drew (S := (fun X => rowAt X w2.heap.size = some tk.tk.cells)) (by kernel_rfl) ((rowAt_drew _ _).trans (rowAt_at _ _ _ _ _ rfl)) (fun hHeld => ?_)
    refine wpAnyH_take (i := 0) (v := ?_) rfl (by kernel_rfl) (by kernel_rfl) (by kernel_rfl) (fun _ _ _ h => h) (Or.inl ⟨by rfl, ?y0⟩) hHeld ?r0
    case y0 => (intro w2 hSw; (try dsimp only at hSw); go_simp; try rfl)
    simp only [Act.put, List.setIfInBounds_toArray, List.set_cons_zero, List.set_cons_succ]
    refine wpAnyH_take (i := 1) (v := ?_) rfl (by kernel_rfl) (by kernel_rfl) (by kernel_rfl) (fun _ _ _ h => h) (Or.inl ⟨by rfl, ?y1⟩) hHeld ?r1
    case y1 => (intro w2 hSw; (try dsimp only at hSw); have c3 := rowAt_cell hSw 3; go_simp; try rfl)
    simp only [Act.put, List.setIfInBounds_toArray, List.set_cons_zero, List.set_cons_succ]
    refine wpAnyH_take (i := 2) (v := ?_) rfl (by kernel_rfl) (by kernel_rfl) (by kernel_rfl) (fun _ _ _ h => h) (Or.inl ⟨by rfl, ?y2⟩) hHeld ?r2
    case y2 => (intro w2 hSw; (try dsimp only at hSw); go_simp; try rfl)
    simp only [Act.put, List.setIfInBounds_toArray, List.set_cons_zero, List.set_cons_succ]
    refine wpAnyH_ready (rs := [3, 6]) (by kernel_rfl) (by simp) ?_
    refine .cons rfl (fun K hK => ?_) (.cons rfl (fun K hK => ?_) .nil)
    · go_simp
      go_wp2_with (go_at_call 74; refine (HF.out _ S3.rd).mono ?_; rintro e w5 ⟨c5, i5, rfl, ht5, hi5, s5, n5⟩)
      have g1 : ((w2.alloc (.cells tk.tk.cells 41)).drew).grownBy (w5) (some b) := s5.gb
      have z5 := g1.size
      simp at z5
      have hh2 := hold1_gb hHeld g1 hq7
      refine hK.out _ _ hh2 (fun _ => ?_)
      clear hK K
      have S3 := S3.next s5
      refine wpAnyH_ready (rs := [4, 6]) (by kernel_rfl) (by simp) ?_
      refine .cons rfl (fun K hK => ?_) (.cons rfl (fun K hK => ?_) .nil)
      · go_simp
        have g4 : (w5).grownBy ((w5).alloc (.cells (c5.cells) 31)) (some b) := gb_of_below (by go_grown) b
        have hh5 := hold1_gb hh2 g4 hq7
        refine hK.out _ _ hh5 (fun _ => ?_)
        clear hK K
        have S6 := S3.alloc (.cells (c5.cells) 31)
        refine wpAnyH_ready (rs := [5, 6]) (by kernel_rfl) (by simp) ?_
        refine .cons rfl (fun K hK => ?_) (.cons rfl (fun K hK => ?_) .nil)
        · go_simp
          go_wp2_with (go_at_call 59; refine (node_any _ _ _ _ _ _).mono ?_; rintro e w6 ⟨rfl, hb6⟩)
          have g7 : ((w5).alloc (.cells (c5.cells) 31)).grownBy (w6) (some b) := gb_of_below hb6 b
          have z6 := g7.size
          simp at z6
          have hh8 := hold1_gb hh5 g7 hq7
          refine hK.out _ _ hh8 (fun _ => ?_)
          clear hK K
          have S9 := S6.below hb6
          refine wpAnyH_ready (rs := [6]) (by kernel_rfl) (by simp) ?_
          refine .cons rfl (fun K hK => ?_) .nil
          go_simp
          have g10 : (w6).grownBy ((w6).alloc (.cells (⟨0, ⟨#[]⟩, 0, false, none, 0, 0, 0⟩ : Nc).cells 31)) (some b) := gb_of_below (by go_grown) b
          have hh11 := hold1_gb hh8 g10 hq7
          refine hK.out _ _ hh11 (fun _ => ?_)
          clear hK K
          have S12 := S9.alloc (.cells (⟨0, ⟨#[]⟩, 0, false, none, 0, 0, 0⟩ : Nc).cells 31)
          refine wpAnyH_ready (rs := [7]) (by kernel_rfl) (by simp) ?_
          refine .cons rfl (fun K hK => ?_) .nil
          have rm13 : roomAt ((w6).alloc (.cells (⟨0, ⟨#[]⟩, 0, false, none, 0, 0, 0⟩ : Nc).cells 31)) (w6.heap.size) 6 = true := roomNd_new _ _ _ _ (by simp)
          have n8 : w.heap.size < w6.heap.size := by first | omega | (simp; done) | (simp; omega)
          have d7 : w2.heap.size ≠ w6.heap.size := by first | omega | (simp; done) | (simp; omega)
          have d6 : w.heap.size ≠ w6.heap.size := by omega
          have db : w5.heap.size ≠ w6.heap.size := by first | omega | (simp; done) | (simp; omega)
          have hY : rowAt (putRow ((w6).alloc (.cells (⟨0, ⟨#[]⟩, 0, false, none, 0, 0, 0⟩ : Nc).cells 31)) (w6.heap.size) (⟨36, ⟨#[]⟩, 0, false, some ⟨w5.heap.size, 0, none⟩, 1, 1, (tk.p : Int)⟩ : Nc).cells) w2.heap.size = some tk.tk.cells := (row_far _ _ _ _ d7).trans hh11
          have SY : St w (putRow ((w6).alloc (.cells (⟨0, ⟨#[]⟩, 0, false, none, 0, 0, 0⟩ : Nc).cells 31)) (w6.heap.size) (⟨36, ⟨#[]⟩, 0, false, some ⟨w5.heap.size, 0, none⟩, 1, 1, (tk.p : Int)⟩ : Nc).cells) b g cap L i5 (o + 1) := S12.old bl gl _ (by omega) _
          have m6 : roomAt (putRow ((w6).alloc (.cells (⟨0, ⟨#[]⟩, 0, false, none, 0, 0, 0⟩ : Nc).cells 31)) (w6.heap.size) (⟨36, ⟨#[]⟩, 0, false, some ⟨w5.heap.size, 0, none⟩, 1, 1, (tk.p : Int)⟩ : Nc).cells) w.heap.size 6 = true := (room_far _ _ _ _ _ d6).trans ((room_gb (gb_trans (gb_trans (gb_trans g1 g4) g7) g10) (by first | omega | (simp; done) | (simp; omega)) (by omega) 6).trans ((roomAt_drew _ _ _).trans ((roomAt_old _ _ _ _ (by omega)).trans p6)))
          have mb : (putRow ((w6).alloc (.cells (⟨0, ⟨#[]⟩, 0, false, none, 0, 0, 0⟩ : Nc).cells 31)) (w6.heap.size) (⟨36, ⟨#[]⟩, 0, false, some ⟨w5.heap.size, 0, none⟩, 1, 1, (tk.p : Int)⟩ : Nc).cells).heap[w5.heap.size]? = some (.cells (c5.cells) 31 (0, 0)) := (put_far _ _ _ _ db).trans ((((gb_trans g7 g10)).block (w5.heap.size) (by first | omega | (simp; done) | (simp; omega)) (by intro e; injection e with e; first | omega | (simp at e; omega))).trans (heap_new' _ _ (by simp)))
          have m2 : NdAt (putRow ((w6).alloc (.cells (⟨0, ⟨#[]⟩, 0, false, none, 0, 0, 0⟩ : Nc).cells 31)) (w6.heap.size) (⟨36, ⟨#[]⟩, 0, false, some ⟨w5.heap.size, 0, none⟩, 1, 1, (tk.p : Int)⟩ : Nc).cells) (fun x => w.heap.size ≤ x ∧ x ≠ w6.heap.size ∧ x ≠ w.heap.size) c5 n2 := n5.keep (fun x hx hl => ⟨by first | omega | (simp at hx; omega), by first | omega | (simp at hx ⊢; omega), by first | omega | (simp at hx; omega)⟩) (by rw [size_put]; exact ((gb_trans (gb_trans g4 g7) g10)).size) (fun x hx hl => (put_far _ _ _ _ (by first | omega | (simp at hx ⊢; omega))).trans (((gb_trans (gb_trans g4 g7) g10)).block x hl (by intro e; injection e with e; first | omega | (simp at hx; omega))))
          have FIN : Hid (UnAt w (putRow ((w6).alloc (.cells (⟨0, ⟨#[]⟩, 0, false, none, 0, 0, 0⟩ : Nc).cells 31)) (w6.heap.size) (⟨36, ⟨#[]⟩, 0, false, some ⟨w5.heap.size, 0, none⟩, 1, 1, (tk.p : Int)⟩ : Nc).cells) b g cap L o tk n2 t2 i w2.heap.size (w6.heap.size)) := ⟨w5.heap.size, i5, SY, ht5, hi5, rowNd_put _ _ _ rm13, room_keep rm13 _ rfl, m6, hY, n8, un_made ⟨by first | omega | (simp; done) | (simp; omega), db, by first | omega | (simp; done) | (simp; omega)⟩ mb m2⟩
          have HY : Hid (rowAt (putRow ((w6).alloc (.cells (⟨0, ⟨#[]⟩, 0, false, none, 0, 0, 0⟩ : Nc).cells 31)) (w6.heap.size) (⟨36, ⟨#[]⟩, 0, false, some ⟨w5.heap.size, 0, none⟩, 1, 1, (tk.p : Int)⟩ : Nc).cells) w2.heap.size = some tk.tk.cells) := hY
          clear SY m6 mb m2 hY n8 d7 d6 db n5 s5 ht5 hi5 g1 g4 g7 g10 S12
          rw [putNd_new _ _ _ _ _ (by simp)] at FIN HY
          go_simp
          refine hK.out _ _ HY.out (fun _ => ?_)
          clear hK K
          refine wpAnyH_done (by kernel_rfl) ?_ _
          go_wp2_with fail
          go_meet
          exact ⟨_, rfl, FIN.out⟩
        · go_simp
          have g14 : ((w5).alloc (.cells (c5.cells) 31)).grownBy (((w5).alloc (.cells (c5.cells) 31)).alloc (.cells (⟨0, ⟨#[]⟩, 0, false, none, 0, 0, 0⟩ : Nc).cells 31)) (some b) := gb_of_below (by go_grown) b
          have hh15 := hold1_gb hh5 g14 hq7
          refine hK.out _ _ hh15 (fun _ => ?_)
          clear hK K
          have S16 := S6.alloc (.cells (⟨0, ⟨#[]⟩, 0, false, none, 0, 0, 0⟩ : Nc).cells 31)
          refine wpAnyH_ready (rs := [5]) (by kernel_rfl) (by simp) ?_
          refine .cons rfl (fun K hK => ?_) .nil
          go_simp
          go_wp2_with (go_at_call 59; refine (node_any _ _ _ _ _ _).mono ?_; rintro e w6 ⟨rfl, hb6⟩)
          have g17 : (((w5).alloc (.cells (c5.cells) 31)).alloc (.cells (⟨0, ⟨#[]⟩, 0, false, none, 0, 0, 0⟩ : Nc).cells 31)).grownBy (w6) (some b) := gb_of_below hb6 b
          have z6 := g17.size
          simp at z6
          have hh18 := hold1_gb hh15 g17 hq7
          refine hK.out _ _ hh18 (fun _ => ?_)
          clear hK K
          have S19 := S16.below hb6
          refine wpAnyH_ready (rs := [7]) (by kernel_rfl) (by simp) ?_
          refine .cons rfl (fun K hK => ?_) .nil
          have rm20 : roomAt (w6) (w5.heap.size + 1) 6 = true := (room_gb g17 (by first | omega | (simp; done) | (simp; omega)) (by first | omega | (simp; done) | (simp; omega)) 6).trans (roomNd_new _ _ _ _ (by simp))
          have n8 : w.heap.size < w5.heap.size + 1 := by first | omega | (simp; done) | (simp; omega)
          have d7 : w2.heap.size ≠ w5.heap.size + 1 := by first | omega | (simp; done) | (simp; omega)
          have d6 : w.heap.size ≠ w5.heap.size + 1 := by omega
          have db : w5.heap.size ≠ w5.heap.size + 1 := by first | omega | (simp; done) | (simp; omega)
          have hY : rowAt (putRow (w6) (w5.heap.size + 1) (⟨36, ⟨#[]⟩, 0, false, some ⟨w5.heap.size, 0, none⟩, 1, 1, (tk.p : Int)⟩ : Nc).cells) w2.heap.size = some tk.tk.cells := (row_far _ _ _ _ d7).trans hh18
          have SY : St w (putRow (w6) (w5.heap.size + 1) (⟨36, ⟨#[]⟩, 0, false, some ⟨w5.heap.size, 0, none⟩, 1, 1, (tk.p : Int)⟩ : Nc).cells) b g cap L i5 (o + 1) := S19.old bl gl _ (by omega) _
          have m6 : roomAt (putRow (w6) (w5.heap.size + 1) (⟨36, ⟨#[]⟩, 0, false, some ⟨w5.heap.size, 0, none⟩, 1, 1, (tk.p : Int)⟩ : Nc).cells) w.heap.size 6 = true := (room_far _ _ _ _ _ d6).trans ((room_gb (gb_trans (gb_trans (gb_trans g1 g4) g14) g17) (by first | omega | (simp; done) | (simp; omega)) (by omega) 6).trans ((roomAt_drew _ _ _).trans ((roomAt_old _ _ _ _ (by omega)).trans p6)))
          have mb : (putRow (w6) (w5.heap.size + 1) (⟨36, ⟨#[]⟩, 0, false, some ⟨w5.heap.size, 0, none⟩, 1, 1, (tk.p : Int)⟩ : Nc).cells).heap[w5.heap.size]? = some (.cells (c5.cells) 31 (0, 0)) := (put_far _ _ _ _ db).trans ((((gb_trans g14 g17)).block (w5.heap.size) (by first | omega | (simp; done) | (simp; omega)) (by intro e; injection e with e; first | omega | (simp at e; omega))).trans (heap_new' _ _ (by simp)))
          have m2 : NdAt (putRow (w6) (w5.heap.size + 1) (⟨36, ⟨#[]⟩, 0, false, some ⟨w5.heap.size, 0, none⟩, 1, 1, (tk.p : Int)⟩ : Nc).cells) (fun x => w.heap.size ≤ x ∧ x ≠ w5.heap.size + 1 ∧ x ≠ w.heap.size) c5 n2 := n5.keep (fun x hx hl => ⟨by first | omega | (simp at hx; omega), by first | omega | (simp at hx ⊢; omega), by first | omega | (simp at hx; omega)⟩) (by rw [size_put]; exact ((gb_trans (gb_trans g4 g14) g17)).size) (fun x hx hl => (put_far _ _ _ _ (by first | omega | (simp at hx ⊢; omega))).trans (((gb_trans (gb_trans g4 g14) g17)).block x hl (by intro e; injection e with e; first | omega | (simp at hx; omega))))
          have FIN : Hid (UnAt w (putRow (w6) (w5.heap.size + 1) (⟨36, ⟨#[]⟩, 0, false, some ⟨w5.heap.size, 0, none⟩, 1, 1, (tk.p : Int)⟩ : Nc).cells) b g cap L o tk n2 t2 i w2.heap.size (w5.heap.size + 1)) := ⟨w5.heap.size, i5, SY, ht5, hi5, rowNd_put _ _ _ rm20, room_keep rm20 _ rfl, m6, hY, n8, un_made ⟨by first | omega | (simp; done) | (simp; omega), db, by first | omega | (simp; done) | (simp; omega)⟩ mb m2⟩
          have HY : Hid (rowAt (putRow (w6) (w5.heap.size + 1) (⟨36, ⟨#[]⟩, 0, false, some ⟨w5.heap.size, 0, none⟩, 1, 1, (tk.p : Int)⟩ : Nc).cells) w2.heap.size = some tk.tk.cells) := hY
          clear SY m6 mb m2 hY n8 d7 d6 db n5 s5 ht5 hi5 g1 g4 g14 g17 S19
          go_simp
          refine hK.out _ _ HY.out (fun _ => ?_)
          clear hK K
          refine wpAnyH_done (by kernel_rfl) ?_ _
          go_wp2_with fail
          go_meet
          exact ⟨_, rfl, FIN.out⟩
      · go_simp
        have g21 : (w5).grownBy ((w5).alloc (.cells (⟨0, ⟨#[]⟩, 0, false, none, 0, 0, 0⟩ : Nc).cells 31)) (some b) := gb_of_below (by go_grown) b
        have hh22 := hold1_gb hh2 g21 hq7
        refine hK.out _ _ hh22 (fun _ => ?_)
        clear hK K
        have S23 := S3.alloc (.cells (⟨0, ⟨#[]⟩, 0, false, none, 0, 0, 0⟩ : Nc).cells 31)
        refine wpAnyH_ready (rs := [4]) (by kernel_rfl) (by simp) ?_
        refine .cons rfl (fun K hK => ?_) .nil
        go_simp
        have g24 : ((w5).alloc (.cells (⟨0, ⟨#[]⟩, 0, false, none, 0, 0, 0⟩ : Nc).cells 31)).grownBy (((w5).alloc (.cells (⟨0, ⟨#[]⟩, 0, false, none, 0, 0, 0⟩ : Nc).cells 31)).alloc (.cells (c5.cells) 31)) (some b) := gb_of_below (by go_grown) b
        have hh25 := hold1_gb hh22 g24 hq7
        refine hK.out _ _ hh25 (fun _ => ?_)
        clear hK K
        have S26 := S23.alloc (.cells (c5.cells) 31)
        refine wpAnyH_ready (rs := [5]) (by kernel_rfl) (by simp) ?_
        refine .cons rfl (fun K hK => ?_) .nil
        go_simp
        go_wp2_with (go_at_call 59; refine (node_any _ _ _ _ _ _).mono ?_; rintro e w6 ⟨rfl, hb6⟩)
        have g27 : (((w5).alloc (.cells (⟨0, ⟨#[]⟩, 0, false, none, 0, 0, 0⟩ : Nc).cells 31)).alloc (.cells (c5.cells) 31)).grownBy (w6) (some b) := gb_of_below hb6 b
        have z6 := g27.size
        simp at z6
        have hh28 := hold1_gb hh25 g27 hq7
        refine hK.out _ _ hh28 (fun _ => ?_)
        clear hK K
        have S29 := S26.below hb6
        refine wpAnyH_ready (rs := [7]) (by kernel_rfl) (by simp) ?_
        refine .cons rfl (fun K hK => ?_) .nil
        have rm30 : roomAt (w6) (w5.heap.size) 6 = true := (room_gb (gb_trans g24 g27) (by first | omega | (simp; done) | (simp; omega)) (by first | omega | (simp; done) | (simp; omega)) 6).trans (roomNd_new _ _ _ _ (by simp))
        have n8 : w.heap.size < w5.heap.size := by first | omega | (simp; done) | (simp; omega)
        have d7 : w2.heap.size ≠ w5.heap.size := by first | omega | (simp; done) | (simp; omega)
        have d6 : w.heap.size ≠ w5.heap.size := by omega
        have db : w5.heap.size + 1 ≠ w5.heap.size := by first | omega | (simp; done) | (simp; omega)
        have hY : rowAt (putRow (w6) (w5.heap.size) (⟨36, ⟨#[]⟩, 0, false, some ⟨w5.heap.size + 1, 0, none⟩, 1, 1, (tk.p : Int)⟩ : Nc).cells) w2.heap.size = some tk.tk.cells := (row_far _ _ _ _ d7).trans hh28
        have SY : St w (putRow (w6) (w5.heap.size) (⟨36, ⟨#[]⟩, 0, false, some ⟨w5.heap.size + 1, 0, none⟩, 1, 1, (tk.p : Int)⟩ : Nc).cells) b g cap L i5 (o + 1) := S29.old bl gl _ (by omega) _
        have m6 : roomAt (putRow (w6) (w5.heap.size) (⟨36, ⟨#[]⟩, 0, false, some ⟨w5.heap.size + 1, 0, none⟩, 1, 1, (tk.p : Int)⟩ : Nc).cells) w.heap.size 6 = true := (room_far _ _ _ _ _ d6).trans ((room_gb (gb_trans (gb_trans (gb_trans g1 g21) g24) g27) (by first | omega | (simp; done) | (simp; omega)) (by omega) 6).trans ((roomAt_drew _ _ _).trans ((roomAt_old _ _ _ _ (by omega)).trans p6)))
        have mb : (putRow (w6) (w5.heap.size) (⟨36, ⟨#[]⟩, 0, false, some ⟨w5.heap.size + 1, 0, none⟩, 1, 1, (tk.p : Int)⟩ : Nc).cells).heap[w5.heap.size + 1]? = some (.cells (c5.cells) 31 (0, 0)) := (put_far _ _ _ _ db).trans (((g27).block (w5.heap.size + 1) (by first | omega | (simp; done) | (simp; omega)) (by intro e; injection e with e; first | omega | (simp at e; omega))).trans (heap_new' _ _ (by simp)))
        have m2 : NdAt (putRow (w6) (w5.heap.size) (⟨36, ⟨#[]⟩, 0, false, some ⟨w5.heap.size + 1, 0, none⟩, 1, 1, (tk.p : Int)⟩ : Nc).cells) (fun x => w.heap.size ≤ x ∧ x ≠ w5.heap.size ∧ x ≠ w.heap.size) c5 n2 := n5.keep (fun x hx hl => ⟨by first | omega | (simp at hx; omega), by first | omega | (simp at hx ⊢; omega), by first | omega | (simp at hx; omega)⟩) (by rw [size_put]; exact ((gb_trans (gb_trans g21 g24) g27)).size) (fun x hx hl => (put_far _ _ _ _ (by first | omega | (simp at hx ⊢; omega))).trans (((gb_trans (gb_trans g21 g24) g27)).block x hl (by intro e; injection e with e; first | omega | (simp at hx; omega))))
        have FIN : Hid (UnAt w (putRow (w6) (w5.heap.size) (⟨36, ⟨#[]⟩, 0, false, some ⟨w5.heap.size + 1, 0, none⟩, 1, 1, (tk.p : Int)⟩ : Nc).cells) b g cap L o tk n2 t2 i w2.heap.size (w5.heap.size)) := ⟨w5.heap.size + 1, i5, SY, ht5, hi5, rowNd_put _ _ _ rm30, room_keep rm30 _ rfl, m6, hY, n8, un_made ⟨by first | omega | (simp; done) | (simp; omega), db, by first | omega | (simp; done) | (simp; omega)⟩ mb m2⟩
        have HY : Hid (rowAt (putRow (w6) (w5.heap.size) (⟨36, ⟨#[]⟩, 0, false, some ⟨w5.heap.size + 1, 0, none⟩, 1, 1, (tk.p : Int)⟩ : Nc).cells) w2.heap.size = some tk.tk.cells) := hY
        clear SY m6 mb m2 hY n8 d7 d6 db n5 s5 ht5 hi5 g1 g21 g24 g27 S29
        go_simp
        refine hK.out _ _ HY.out (fun _ => ?_)
        clear hK K
        refine wpAnyH_done (by kernel_rfl) ?_ _
        go_wp2_with fail
        go_meet
        exact ⟨_, rfl, FIN.out⟩
    · go_simp
      have g31 : ((w2.alloc (.cells tk.tk.cells 41)).drew).grownBy (((w2.alloc (.cells tk.tk.cells 41)).drew).alloc (.cells (⟨0, ⟨#[]⟩, 0, false, none, 0, 0, 0⟩ : Nc).cells 31)) (some b) := gb_of_below (by go_grown) b
      have hh32 := hold1_gb hHeld g31 hq7
      refine hK.out _ _ hh32 (fun _ => ?_)
      clear hK K
      have S33 := S3.alloc (.cells (⟨0, ⟨#[]⟩, 0, false, none, 0, 0, 0⟩ : Nc).cells 31)
      refine wpAnyH_ready (rs := [3]) (by kernel_rfl) (by simp) ?_
      refine .cons rfl (fun K hK => ?_) .nil
      go_simp
      go_wp2_with (go_at_call 74; refine (HF.out _ S33.rd).mono ?_; rintro e w5 ⟨c5, i5, rfl, ht5, hi5, s5, n5⟩)
      have g34 : (((w2.alloc (.cells tk.tk.cells 41)).drew).alloc (.cells (⟨0, ⟨#[]⟩, 0, false, none, 0, 0, 0⟩ : Nc).cells 31)).grownBy (w5) (some b) := s5.gb
      have z5 := g34.size
      simp at z5
      have hh35 := hold1_gb hh32 g34 hq7
      refine hK.out _ _ hh35 (fun _ => ?_)
      clear hK K
      have S36 := S33.next s5
      refine wpAnyH_ready (rs := [4]) (by kernel_rfl) (by simp) ?_
      refine .cons rfl (fun K hK => ?_) .nil
      go_simp
      have g37 : (w5).grownBy ((w5).alloc (.cells (c5.cells) 31)) (some b) := gb_of_below (by go_grown) b
      have hh38 := hold1_gb hh35 g37 hq7
      refine hK.out _ _ hh38 (fun _ => ?_)
      clear hK K
      have S39 := S36.alloc (.cells (c5.cells) 31)
      refine wpAnyH_ready (rs := [5]) (by kernel_rfl) (by simp) ?_
      refine .cons rfl (fun K hK => ?_) .nil
      go_simp
      go_wp2_with (go_at_call 59; refine (node_any _ _ _ _ _ _).mono ?_; rintro e w6 ⟨rfl, hb6⟩)
      have g40 : ((w5).alloc (.cells (c5.cells) 31)).grownBy (w6) (some b) := gb_of_below hb6 b
      have z6 := g40.size
      simp at z6
      have hh41 := hold1_gb hh38 g40 hq7
      refine hK.out _ _ hh41 (fun _ => ?_)
      clear hK K
      have S42 := S39.below hb6
      refine wpAnyH_ready (rs := [7]) (by kernel_rfl) (by simp) ?_
      refine .cons rfl (fun K hK => ?_) .nil
      have rm43 : roomAt (w6) (w2.heap.size + 1) 6 = true := (room_gb (gb_trans (gb_trans g34 g37) g40) (by first | omega | (simp; done) | (simp; omega)) (by first | omega | (simp; done) | (simp; omega)) 6).trans (roomNd_new _ _ _ _ (by simp))
      have n8 : w.heap.size < w2.heap.size + 1 := by first | omega | (simp; done) | (simp; omega)
      have d7 : w2.heap.size ≠ w2.heap.size + 1 := by first | omega | (simp; done) | (simp; omega)
      have d6 : w.heap.size ≠ w2.heap.size + 1 := by omega
      have db : w5.heap.size ≠ w2.heap.size + 1 := by first | omega | (simp; done) | (simp; omega)
      have hY : rowAt (putRow (w6) (w2.heap.size + 1) (⟨36, ⟨#[]⟩, 0, false, some ⟨w5.heap.size, 0, none⟩, 1, 1, (tk.p : Int)⟩ : Nc).cells) w2.heap.size = some tk.tk.cells := (row_far _ _ _ _ d7).trans hh41
      have SY : St w (putRow (w6) (w2.heap.size + 1) (⟨36, ⟨#[]⟩, 0, false, some ⟨w5.heap.size, 0, none⟩, 1, 1, (tk.p : Int)⟩ : Nc).cells) b g cap L i5 (o + 1) := S42.old bl gl _ (by omega) _
      have m6 : roomAt (putRow (w6) (w2.heap.size + 1) (⟨36, ⟨#[]⟩, 0, false, some ⟨w5.heap.size, 0, none⟩, 1, 1, (tk.p : Int)⟩ : Nc).cells) w.heap.size 6 = true := (room_far _ _ _ _ _ d6).trans ((room_gb (gb_trans (gb_trans (gb_trans g31 g34) g37) g40) (by first | omega | (simp; done) | (simp; omega)) (by omega) 6).trans ((roomAt_drew _ _ _).trans ((roomAt_old _ _ _ _ (by omega)).trans p6)))
      have mb : (putRow (w6) (w2.heap.size + 1) (⟨36, ⟨#[]⟩, 0, false, some ⟨w5.heap.size, 0, none⟩, 1, 1, (tk.p : Int)⟩ : Nc).cells).heap[w5.heap.size]? = some (.cells (c5.cells) 31 (0, 0)) := (put_far _ _ _ _ db).trans (((g40).block (w5.heap.size) (by first | omega | (simp; done) | (simp; omega)) (by intro e; injection e with e; first | omega | (simp at e; omega))).trans (heap_new' _ _ (by simp)))
      have m2 : NdAt (putRow (w6) (w2.heap.size + 1) (⟨36, ⟨#[]⟩, 0, false, some ⟨w5.heap.size, 0, none⟩, 1, 1, (tk.p : Int)⟩ : Nc).cells) (fun x => w.heap.size ≤ x ∧ x ≠ w2.heap.size + 1 ∧ x ≠ w.heap.size) c5 n2 := n5.keep (fun x hx hl => ⟨by first | omega | (simp at hx; omega), by first | omega | (simp at hx ⊢; omega), by first | omega | (simp at hx; omega)⟩) (by rw [size_put]; exact ((gb_trans g37 g40)).size) (fun x hx hl => (put_far _ _ _ _ (by first | omega | (simp at hx ⊢; omega))).trans (((gb_trans g37 g40)).block x hl (by intro e; injection e with e; first | omega | (simp at hx; omega))))
      have FIN : Hid (UnAt w (putRow (w6) (w2.heap.size + 1) (⟨36, ⟨#[]⟩, 0, false, some ⟨w5.heap.size, 0, none⟩, 1, 1, (tk.p : Int)⟩ : Nc).cells) b g cap L o tk n2 t2 i w2.heap.size (w2.heap.size + 1)) := ⟨w5.heap.size, i5, SY, ht5, hi5, rowNd_put _ _ _ rm43, room_keep rm43 _ rfl, m6, hY, n8, un_made ⟨by first | omega | (simp; done) | (simp; omega), db, by first | omega | (simp; done) | (simp; omega)⟩ mb m2⟩
      have HY : Hid (rowAt (putRow (w6) (w2.heap.size + 1) (⟨36, ⟨#[]⟩, 0, false, some ⟨w5.heap.size, 0, none⟩, 1, 1, (tk.p : Int)⟩ : Nc).cells) w2.heap.size = some tk.tk.cells) := hY
      clear SY m6 mb m2 hY n8 d7 d6 db n5 s5 ht5 hi5 g31 g34 g37 g40 S42
      go_simp
      refine hK.out _ _ HY.out (fun _ => ?_)
      clear hK K
      refine wpAnyH_done (by kernel_rfl) ?_ _
      go_wp2_with fail
      go_meet
      exact ⟨_, rfl, FIN.out⟩
  case rest =>
    obtain ⟨q, rfl, blk, i', SY, ht, hi, ry, my, m6, r7, n8, nd⟩ := hcut
    have c7 := rowAt_cell r7
    have cy := rowAt_cell ry
    have fy1 : wc.frozen? ⟨q, 1, none⟩ = false := by have := (room_there my 1 (by omega)).2; rwa [Nat.zero_add] at this
    have ry2 : rowAt (wc.setCell ⟨q, 1, none⟩ (.string tk.tk.t)) q = some (⟨36, tk.tk.t, 0, false, some ⟨blk, 0, none⟩, 1, 1, (tk.p : Int)⟩ : Nc).cells := rowAt_set _ _ _ _ _ ry
    have my2 : roomAt (wc.setCell ⟨q, 1, none⟩ (.string tk.tk.t)) w.heap.size 6 = true := (roomAt_far _ _ _ _ _ (by show w.heap.size ≠ q; omega)).trans m6
    have FS : St w (wc.setCell ⟨q, 1, none⟩ (.string tk.tk.t)) b g cap L i' (o + 1) := SY.far bl gl q 1 (by omega) _
    have FN : Hid (NdAt (wc.setCell ⟨q, 1, none⟩ (.string tk.tk.t)) (fun x => w.heap.size ≤ x ∧ x ≠ w.heap.size) ⟨36, bs tk.t, 0, false, some ⟨blk, 0, none⟩, 1, 1, (tk.p : Int)⟩ (unN tk n2)) := nd.keep (fun x hx _ => ⟨hx.1, hx.2.2⟩) (by simp) (fun x hx hl => Below.heap_setCell _ _ _ _ hx.2.1)
    have EN := end_any _ b g cap L i' o FS.rd
    have HT : Hid (t2 = L.drop i' ∧ i + 1 < i') := ⟨ht, hi⟩
    have HS : Hid (St w (wc.setCell ⟨q, 1, none⟩ (.string tk.tk.t)) b g cap L i' (o + 1)) := FS
    have ql : q < (wc.setCell ⟨q, 1, none⟩ (.string tk.tk.t)).heap.size := row_lt ry2
    have w0l : w.heap.size < (wc.setCell ⟨q, 1, none⟩ (.string tk.tk.t)).heap.size := by omega
    clear nd SY ht hi HF PA S3 S2 s2 p6 hs2 ry my r7 m6 FS
    go_wp2_with (go_at_call 77; refine EN.mono ?_; rintro e w9 ⟨rfl, s9⟩; have r9 : rowAt w9 q = some _ := (s9.row ql (by omega)).trans ry2; have m9 : roomAt w9 w.heap.size 6 = true := (s9.room w0l (by omega) 6).trans my2)
    exact ret_cell1 rfl rfl (loadNd_row (rowNd_put _ _ _ m9)) rfl ⟨_, i', rfl, HT.out.1, by have := HT.out.2; omega, (HS.out.next s9).old bl gl _ (Nat.le_refl _) _, FN.out.keep (fun x hx _ => hx.1) (by rw [size_put]; exact s9.size) (fun x hx hl => (put_far _ _ _ _ hx.2).trans (s9.gb.block x hl (fun e => by injection e with e; omega)))⟩
end Go.Proofs.YtllhcjmabhempaaDoor
