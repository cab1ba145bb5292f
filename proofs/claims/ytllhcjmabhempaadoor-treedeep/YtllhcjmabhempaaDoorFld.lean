/-
  Layer 9: a field of what stands ahead.
-/
import Derived.Test.YtllhcjmabhempaaDoorRow
import Derived.Deep.DeepCutAuto
namespace Go.Proofs.YtllhcjmabhempaaDoor
set_option linter.unusedVariables false
set_option linter.unusedSimpArgs false
open Go.ChangeShapes Go.WideShapes Go.ChangeAt Go.RowKit


theorem fieldTk1 (c : Tk) (X : World) : (Instr.field 41 (.agg c.cells) 1).run Tryd.prog X = .ok (.string c.t) X := by kernel_rfl
attribute [local go_sem] fieldTk0 fieldTk3 fieldTk1 hmf
attribute [local go_sem ↓] bslNd_seal
attribute [local go_sem] bslNd1_run bslNd2_run

/-- What a function leaves that makes a tree of one that is handed in. -/
def PostP (w : World) (b g cap : Nat) (L : List Tok) (i o : Nat) (P : Nat → Prop) (r : Rs Nd) (e : Ending) (w' : World) : Prop := match r with
  | .ok n t => ∃ c i', e = .returned (.agg (Nc.cells c)) ∧ t = L.drop i' ∧ i < i' ∧ St w w' b g cap L i' o ∧ NdAt w' P c n
  | .bad p er => e = gaveUp p er ∧ w.grownBy w' (some b)
/-- A node that was made of the one that was handed in, and lies in q. -/
def FldAt (w Y : World) (b g cap : Nat) (L : List Tok) (i o : Nat) (k : Int) (c : Nc) (tk : Tok) (q : Nat) : Prop := ∃ blk, St w Y b g cap L i o ∧ rowAt Y q = some (⟨k, ⟨#[]⟩, 0, false, some ⟨blk, 0, none⟩, 1, 1, (tk.p : Int)⟩ : Nc).cells ∧ roomAt Y q 6 = true ∧ roomAt Y (w.heap.size + 1) 6 = true ∧ w.heap.size + 1 < q ∧ w.heap.size + 1 < blk ∧ blk ≠ q ∧ Y.heap[blk]? = some (.cells c.cells 31 (0, 0))
theorem one_made {Y : World} {P : Nat → Prop} {blk : Nat} {d : Nc} {n : Nd} (k : Int) (t : Bs) (p : Nat) (hP : P blk) (hb : Y.heap[blk]? = some (.cells d.cells 31 (0, 0))) (h2 : NdAt Y P d n) : NdAt Y P ⟨k, bs t, 0, false, some ⟨blk, 0, none⟩, 1, 1, (p : Int)⟩ (.mk k t 0 false [n] p) := by
  have hl : blk < Y.heap.size := (Array.getElem?_eq_some_iff.1 hb).1
  refine NdAt.mk k t 0 false [n] p _ 1 (KidsAt.cons blk 0 d n [] hP hl (fun i hi => ?_) h2 (KidsAt.nil _ _))
  simp [World.cell?, hb]
set_option maxHeartbeats 4000000 in
set_option maxRecDepth 20000 in
theorem field_any (w : World) (b g cap : Nat) (L : List Tok) (i o : Nat) (h : RdAt w b g cap L i o) (hk : (hd (L.drop i)).k ≠ 0) (c : Nc) (P : Nat → Prop) (hP1 : ∀ x, P x → x ≠ b) (hP2 : ∀ x, w.heap.size ≤ x → P x) (n1 : Nd) (hc : NdAt w P c n1) :
    Calls Tryd.prog 85 #[.pointer (some ⟨b, 0, none⟩), .agg c.cells] w (PostP w b g cap L i o P ((nameR (L.drop (i + 1))).bind fun y s => .ok (Nd.mk 32 y.t 0 false [n1] (hd (L.drop i)).p) s)) := by
  have PA : Hid (∀ X, RdAt X b g cap L i o → Calls Tryd.prog 52 #[.pointer (some ⟨b, 0, none⟩)] X _) := fun X hX => pass_any X b g cap L i o hX hk
  have H : Hid (RdAt w b g cap L i o) := h
  have HC : Hid (NdAt w P c n1) := hc
  have bl := h.bl
  have gl := h.gl
  have hq4 : w.heap.size ≠ b := by omega
  have S0 := (((St.refl H.out).alloc (.cells c.cells 31)).alloc (.cells (⟨0, ⟨#[]⟩, 0, false, none, 0, 0, 0⟩ : Nc).cells 31)).drew
  clear h hk hc
  obtain ⟨tk, htk⟩ : ∃ tk, tk = hd (L.drop i) := ⟨_, rfl⟩
  rw [← htk] at PA ⊢
  clear htk
  have HY0 : Hid ((hd (L.drop (i + 1))).k = 1 → (nameR (L.drop (i + 1))).bind (fun y s => Rs.ok (Nd.mk 32 y.t 0 false [n1] tk.p) s) = .ok (Nd.mk 32 (hd (L.drop (i + 1))).t 0 false [n1] tk.p) (L.drop (i + 1 + 1))) := fun hn => by unfold nameR; rw [if_pos hn, Rs.bind_ok, List.tail_drop]
  have HN0 : Hid ((hd (L.drop (i + 1))).k ≠ 1 → (nameR (L.drop (i + 1))).bind (fun y s => Rs.ok (Nd.mk 32 y.t 0 false [n1] tk.p) s) = .bad (hd (L.drop (i + 1))).p 90) := fun hn => by unfold nameR; rw [if_neg hn, Rs.bind_bad]
  generalize (nameR (L.drop (i + 1))).bind (fun y s => Rs.ok (Nd.mk 32 y.t 0 false [n1] tk.p) s) = R at HY0 HN0 ⊢
  go_enter Tryd.func85, Tryd.ntmps85
  go_upto_region 1 with fail
  go_cut [5] (fun s8 Y => ∃ q, s8 = .pointer (some ⟨q, 0, none⟩) ∧ FldAt w Y b g cap L (i + 1) o 32 c tk q)
  case first =>
    refine wp_region_held_drew (S := (fun X => rowAt X w.heap.size = some c.cells)) (by kernel_rfl) ((rowAt_drew _ _).trans ((rowAt_old _ _ _ (by simp)).trans (rowAt_at _ _ _ _ _ rfl))) (fun hHeld => ?_)
    refine wpAnyH_take (i := 0) (v := ?_) rfl (by kernel_rfl) (by kernel_rfl) (by kernel_rfl) (fun _ _ _ h => h) (Or.inl ⟨by rfl, ?yk1⟩) hHeld ?rk1
    case yk1 => (intro w2 hSw; (try dsimp only at hSw); go_simp; try rfl)
    simp only [Act.put, List.setIfInBounds_toArray, List.set_cons_zero, List.set_cons_succ]
    refine wpAnyH_take (i := 3) (v := ?_) rfl (by kernel_rfl) (by kernel_rfl) (by kernel_rfl) (fun _ _ _ h => h) (Or.inl ⟨by rfl, ?yk2⟩) hHeld ?rk2
    case yk2 => (intro w2 hSw; (try dsimp only at hSw); go_simp; try rfl)
    simp only [Act.put, List.setIfInBounds_toArray, List.set_cons_zero, List.set_cons_succ]
    refine wpAnyH_ready (rs := [1, 4, 6]) (by kernel_rfl) (by simp) ?_
    refine .cons rfl (fun K hK => ?_) (.cons rfl (fun K hK => ?_) (.cons rfl (fun K hK => ?_) .nil))
    · go_simp
      go_wp2_with (go_at_call 52; refine (PA.out _ S0.rd).mono ?_; rintro e w5 ⟨rfl, s5⟩)
      have g3 : (((w.alloc (.cells c.cells 31)).alloc (.cells (⟨0, ⟨#[]⟩, 0, false, none, 0, 0, 0⟩ : Nc).cells 31)).drew).grownBy (w5) (some b) := s5.gb
      have zg3 := g3.size
      (try simp at zg3)
      have hh4 := hold1_gb hHeld g3 hq4
      refine hK.out _ _ hh4 (fun _ => ?_)
      clear hK K
      have S5 := S0.next s5
      refine wpAnyH_take (i := 2) (v := ?_) rfl (by kernel_rfl) (by kernel_rfl) (by kernel_rfl) (fun _ _ _ h => h) (Or.inl ⟨by rfl, ?yk6⟩) hh4 ?rk6
      case yk6 => (intro w2 hSw; (try dsimp only at hSw); go_simp; try rfl)
      simp only [Act.put, List.setIfInBounds_toArray, List.set_cons_zero, List.set_cons_succ]
      refine wpAnyH_ready (rs := [4, 6]) (by kernel_rfl) (by simp) ?_
      refine .cons rfl (fun K hK => ?_) (.cons rfl (fun K hK => ?_) .nil)
      · go_simp
        have g7 : (w5).grownBy ((w5).alloc (.cells c.cells 31)) (some b) := gb_of_below (by go_grown) b
        have zg7 := g7.size
        (try simp at zg7)
        have hh8 := hold1_gb hh4 g7 hq4
        refine hK.out _ _ hh8 (fun _ => ?_)
        clear hK K
        have S9 := S5.alloc (.cells c.cells 31)
        refine wpAnyH_ready (rs := [5, 6]) (by kernel_rfl) (by simp) ?_
        refine .cons rfl (fun K hK => ?_) (.cons rfl (fun K hK => ?_) .nil)
        · go_simp
          go_wp2_with (go_at_call 59; refine (node_any _ _ _ _ _ _).mono ?_; rintro e w6 ⟨rfl, hb6⟩)
          have g10 : ((w5).alloc (.cells c.cells 31)).grownBy (w6) (some b) := gb_of_below hb6 b
          have zg10 := g10.size
          (try simp at zg10)
          have hh11 := hold1_gb hh8 g10 hq4
          refine hK.out _ _ hh11 (fun _ => ?_)
          clear hK K
          have S12 := S9.below hb6
          refine wpAnyH_ready (rs := [6]) (by kernel_rfl) (by simp) ?_
          refine .cons rfl (fun K hK => ?_) .nil
          go_simp
          have g13 : (w6).grownBy ((w6).alloc (.cells (⟨0, ⟨#[]⟩, 0, false, none, 0, 0, 0⟩ : Nc).cells 31)) (some b) := gb_of_below (by go_grown) b
          have zg13 := g13.size
          (try simp at zg13)
          have hh14 := hold1_gb hh11 g13 hq4
          refine hK.out _ _ hh14 (fun _ => ?_)
          clear hK K
          have S15 := S12.alloc (.cells (⟨0, ⟨#[]⟩, 0, false, none, 0, 0, 0⟩ : Nc).cells 31)
          refine wpAnyH_ready (rs := [7]) (by kernel_rfl) (by simp) ?_
          refine .cons rfl (fun K hK => ?_) .nil
          have rm16 : roomAt ((w6).alloc (.cells (⟨0, ⟨#[]⟩, 0, false, none, 0, 0, 0⟩ : Nc).cells 31)) (w6.heap.size) 6 = true := roomNd_new _ _ _ _ (by simp)
          have n8 : w.heap.size + 1 < w6.heap.size := (by first | omega | (simp; done) | (simp; omega))
          have nb : w.heap.size + 1 < w5.heap.size := (by first | omega | (simp; done) | (simp; omega))
          have db : w5.heap.size ≠ w6.heap.size := (by first | omega | (simp; done) | (simp; omega))
          have SY : St w (putRow ((w6).alloc (.cells (⟨0, ⟨#[]⟩, 0, false, none, 0, 0, 0⟩ : Nc).cells 31)) (w6.heap.size) (⟨32, ⟨#[]⟩, 0, false, some ⟨w5.heap.size, 0, none⟩, 1, 1, (tk.p : Int)⟩ : Nc).cells) b g cap L (i + 1) o := S15.old bl gl _ (by omega) _
          have m6 : roomAt (putRow ((w6).alloc (.cells (⟨0, ⟨#[]⟩, 0, false, none, 0, 0, 0⟩ : Nc).cells 31)) (w6.heap.size) (⟨32, ⟨#[]⟩, 0, false, some ⟨w5.heap.size, 0, none⟩, 1, 1, (tk.p : Int)⟩ : Nc).cells) (w.heap.size + 1) 6 = true := (room_far _ _ _ _ _ (by omega)).trans ((room_gb (gb_trans (gb_trans (gb_trans g3 g7) g10) g13) (by first | omega | (simp; done) | (simp; omega)) (by omega) 6).trans ((roomAt_drew _ _ _).trans (roomNd_new _ _ _ _ (by simp))))
          have mb : (putRow ((w6).alloc (.cells (⟨0, ⟨#[]⟩, 0, false, none, 0, 0, 0⟩ : Nc).cells 31)) (w6.heap.size) (⟨32, ⟨#[]⟩, 0, false, some ⟨w5.heap.size, 0, none⟩, 1, 1, (tk.p : Int)⟩ : Nc).cells).heap[w5.heap.size]? = some (.cells c.cells 31 (0, 0)) := (put_far _ _ _ _ db).trans ((((gb_trans g10 g13)).block (w5.heap.size) (by first | omega | (simp; done) | (simp; omega)) (by intro e; injection e with e; first | omega | (simp at e; omega))).trans (heap_new' _ _ (by simp)))
          have FIN : Hid (FldAt w (putRow ((w6).alloc (.cells (⟨0, ⟨#[]⟩, 0, false, none, 0, 0, 0⟩ : Nc).cells 31)) (w6.heap.size) (⟨32, ⟨#[]⟩, 0, false, some ⟨w5.heap.size, 0, none⟩, 1, 1, (tk.p : Int)⟩ : Nc).cells) b g cap L (i + 1) o 32 c tk (w6.heap.size)) := ⟨w5.heap.size, SY, rowNd_put _ _ _ rm16, room_keep rm16 _ rfl, m6, n8, nb, db, mb⟩
          have HY : Hid (rowAt (putRow ((w6).alloc (.cells (⟨0, ⟨#[]⟩, 0, false, none, 0, 0, 0⟩ : Nc).cells 31)) (w6.heap.size) (⟨32, ⟨#[]⟩, 0, false, some ⟨w5.heap.size, 0, none⟩, 1, 1, (tk.p : Int)⟩ : Nc).cells) w.heap.size = some c.cells) := (row_far _ _ _ _ (by omega)).trans hh14
          clear SY m6 mb nb n8 db s5 g3 g7 g10 g13 S15
          rw [putNd_new _ _ _ _ _ (by simp)] at FIN HY
          go_simp
          refine hK.out _ _ HY.out (fun _ => ?_)
          clear hK K
          refine wpAnyH_done (by kernel_rfl) ?_ _
          go_wp2_with fail
          go_meet
          exact ⟨_, rfl, FIN.out⟩
        · go_simp
          have g17 : ((w5).alloc (.cells c.cells 31)).grownBy (((w5).alloc (.cells c.cells 31)).alloc (.cells (⟨0, ⟨#[]⟩, 0, false, none, 0, 0, 0⟩ : Nc).cells 31)) (some b) := gb_of_below (by go_grown) b
          have zg17 := g17.size
          (try simp at zg17)
          have hh18 := hold1_gb hh8 g17 hq4
          refine hK.out _ _ hh18 (fun _ => ?_)
          clear hK K
          have S19 := S9.alloc (.cells (⟨0, ⟨#[]⟩, 0, false, none, 0, 0, 0⟩ : Nc).cells 31)
          refine wpAnyH_ready (rs := [5]) (by kernel_rfl) (by simp) ?_
          refine .cons rfl (fun K hK => ?_) .nil
          go_simp
          go_wp2_with (go_at_call 59; refine (node_any _ _ _ _ _ _).mono ?_; rintro e w6 ⟨rfl, hb6⟩)
          have g20 : (((w5).alloc (.cells c.cells 31)).alloc (.cells (⟨0, ⟨#[]⟩, 0, false, none, 0, 0, 0⟩ : Nc).cells 31)).grownBy (w6) (some b) := gb_of_below hb6 b
          have zg20 := g20.size
          (try simp at zg20)
          have hh21 := hold1_gb hh18 g20 hq4
          refine hK.out _ _ hh21 (fun _ => ?_)
          clear hK K
          have S22 := S19.below hb6
          refine wpAnyH_ready (rs := [7]) (by kernel_rfl) (by simp) ?_
          refine .cons rfl (fun K hK => ?_) .nil
          have rm23 : roomAt (w6) (w5.heap.size + 1) 6 = true := (room_gb g20 (by first | omega | (simp; done) | (simp; omega)) (by first | omega | (simp; done) | (simp; omega)) 6).trans (roomNd_new _ _ _ _ (by simp))
          have n8 : w.heap.size + 1 < w5.heap.size + 1 := (by first | omega | (simp; done) | (simp; omega))
          have nb : w.heap.size + 1 < w5.heap.size := (by first | omega | (simp; done) | (simp; omega))
          have db : w5.heap.size ≠ w5.heap.size + 1 := (by first | omega | (simp; done) | (simp; omega))
          have SY : St w (putRow (w6) (w5.heap.size + 1) (⟨32, ⟨#[]⟩, 0, false, some ⟨w5.heap.size, 0, none⟩, 1, 1, (tk.p : Int)⟩ : Nc).cells) b g cap L (i + 1) o := S22.old bl gl _ (by omega) _
          have m6 : roomAt (putRow (w6) (w5.heap.size + 1) (⟨32, ⟨#[]⟩, 0, false, some ⟨w5.heap.size, 0, none⟩, 1, 1, (tk.p : Int)⟩ : Nc).cells) (w.heap.size + 1) 6 = true := (room_far _ _ _ _ _ (by omega)).trans ((room_gb (gb_trans (gb_trans (gb_trans g3 g7) g17) g20) (by first | omega | (simp; done) | (simp; omega)) (by omega) 6).trans ((roomAt_drew _ _ _).trans (roomNd_new _ _ _ _ (by simp))))
          have mb : (putRow (w6) (w5.heap.size + 1) (⟨32, ⟨#[]⟩, 0, false, some ⟨w5.heap.size, 0, none⟩, 1, 1, (tk.p : Int)⟩ : Nc).cells).heap[w5.heap.size]? = some (.cells c.cells 31 (0, 0)) := (put_far _ _ _ _ db).trans ((((gb_trans g17 g20)).block (w5.heap.size) (by first | omega | (simp; done) | (simp; omega)) (by intro e; injection e with e; first | omega | (simp at e; omega))).trans (heap_new' _ _ (by simp)))
          have FIN : Hid (FldAt w (putRow (w6) (w5.heap.size + 1) (⟨32, ⟨#[]⟩, 0, false, some ⟨w5.heap.size, 0, none⟩, 1, 1, (tk.p : Int)⟩ : Nc).cells) b g cap L (i + 1) o 32 c tk (w5.heap.size + 1)) := ⟨w5.heap.size, SY, rowNd_put _ _ _ rm23, room_keep rm23 _ rfl, m6, n8, nb, db, mb⟩
          have HY : Hid (rowAt (putRow (w6) (w5.heap.size + 1) (⟨32, ⟨#[]⟩, 0, false, some ⟨w5.heap.size, 0, none⟩, 1, 1, (tk.p : Int)⟩ : Nc).cells) w.heap.size = some c.cells) := (row_far _ _ _ _ (by omega)).trans hh21
          clear SY m6 mb nb n8 db s5 g3 g7 g17 g20 S22
          go_simp
          refine hK.out _ _ HY.out (fun _ => ?_)
          clear hK K
          refine wpAnyH_done (by kernel_rfl) ?_ _
          go_wp2_with fail
          go_meet
          exact ⟨_, rfl, FIN.out⟩
      · go_simp
        have g24 : (w5).grownBy ((w5).alloc (.cells (⟨0, ⟨#[]⟩, 0, false, none, 0, 0, 0⟩ : Nc).cells 31)) (some b) := gb_of_below (by go_grown) b
        have zg24 := g24.size
        (try simp at zg24)
        have hh25 := hold1_gb hh4 g24 hq4
        refine hK.out _ _ hh25 (fun _ => ?_)
        clear hK K
        have S26 := S5.alloc (.cells (⟨0, ⟨#[]⟩, 0, false, none, 0, 0, 0⟩ : Nc).cells 31)
        refine wpAnyH_ready (rs := [4]) (by kernel_rfl) (by simp) ?_
        refine .cons rfl (fun K hK => ?_) .nil
        go_simp
        have g27 : ((w5).alloc (.cells (⟨0, ⟨#[]⟩, 0, false, none, 0, 0, 0⟩ : Nc).cells 31)).grownBy (((w5).alloc (.cells (⟨0, ⟨#[]⟩, 0, false, none, 0, 0, 0⟩ : Nc).cells 31)).alloc (.cells c.cells 31)) (some b) := gb_of_below (by go_grown) b
        have zg27 := g27.size
        (try simp at zg27)
        have hh28 := hold1_gb hh25 g27 hq4
        refine hK.out _ _ hh28 (fun _ => ?_)
        clear hK K
        have S29 := S26.alloc (.cells c.cells 31)
        refine wpAnyH_ready (rs := [5]) (by kernel_rfl) (by simp) ?_
        refine .cons rfl (fun K hK => ?_) .nil
        go_simp
        go_wp2_with (go_at_call 59; refine (node_any _ _ _ _ _ _).mono ?_; rintro e w6 ⟨rfl, hb6⟩)
        have g30 : (((w5).alloc (.cells (⟨0, ⟨#[]⟩, 0, false, none, 0, 0, 0⟩ : Nc).cells 31)).alloc (.cells c.cells 31)).grownBy (w6) (some b) := gb_of_below hb6 b
        have zg30 := g30.size
        (try simp at zg30)
        have hh31 := hold1_gb hh28 g30 hq4
        refine hK.out _ _ hh31 (fun _ => ?_)
        clear hK K
        have S32 := S29.below hb6
        refine wpAnyH_ready (rs := [7]) (by kernel_rfl) (by simp) ?_
        refine .cons rfl (fun K hK => ?_) .nil
        have rm33 : roomAt (w6) (w5.heap.size) 6 = true := (room_gb (gb_trans g27 g30) (by first | omega | (simp; done) | (simp; omega)) (by first | omega | (simp; done) | (simp; omega)) 6).trans (roomNd_new _ _ _ _ (by simp))
        have n8 : w.heap.size + 1 < w5.heap.size := (by first | omega | (simp; done) | (simp; omega))
        have nb : w.heap.size + 1 < w5.heap.size + 1 := (by first | omega | (simp; done) | (simp; omega))
        have db : w5.heap.size + 1 ≠ w5.heap.size := (by first | omega | (simp; done) | (simp; omega))
        have SY : St w (putRow (w6) (w5.heap.size) (⟨32, ⟨#[]⟩, 0, false, some ⟨w5.heap.size + 1, 0, none⟩, 1, 1, (tk.p : Int)⟩ : Nc).cells) b g cap L (i + 1) o := S32.old bl gl _ (by omega) _
        have m6 : roomAt (putRow (w6) (w5.heap.size) (⟨32, ⟨#[]⟩, 0, false, some ⟨w5.heap.size + 1, 0, none⟩, 1, 1, (tk.p : Int)⟩ : Nc).cells) (w.heap.size + 1) 6 = true := (room_far _ _ _ _ _ (by omega)).trans ((room_gb (gb_trans (gb_trans (gb_trans g3 g24) g27) g30) (by first | omega | (simp; done) | (simp; omega)) (by omega) 6).trans ((roomAt_drew _ _ _).trans (roomNd_new _ _ _ _ (by simp))))
        have mb : (putRow (w6) (w5.heap.size) (⟨32, ⟨#[]⟩, 0, false, some ⟨w5.heap.size + 1, 0, none⟩, 1, 1, (tk.p : Int)⟩ : Nc).cells).heap[w5.heap.size + 1]? = some (.cells c.cells 31 (0, 0)) := (put_far _ _ _ _ db).trans (((g30).block (w5.heap.size + 1) (by first | omega | (simp; done) | (simp; omega)) (by intro e; injection e with e; first | omega | (simp at e; omega))).trans (heap_new' _ _ (by simp)))
        have FIN : Hid (FldAt w (putRow (w6) (w5.heap.size) (⟨32, ⟨#[]⟩, 0, false, some ⟨w5.heap.size + 1, 0, none⟩, 1, 1, (tk.p : Int)⟩ : Nc).cells) b g cap L (i + 1) o 32 c tk (w5.heap.size)) := ⟨w5.heap.size + 1, SY, rowNd_put _ _ _ rm33, room_keep rm33 _ rfl, m6, n8, nb, db, mb⟩
        have HY : Hid (rowAt (putRow (w6) (w5.heap.size) (⟨32, ⟨#[]⟩, 0, false, some ⟨w5.heap.size + 1, 0, none⟩, 1, 1, (tk.p : Int)⟩ : Nc).cells) w.heap.size = some c.cells) := (row_far _ _ _ _ (by omega)).trans hh31
        clear SY m6 mb nb n8 db s5 g3 g24 g27 g30 S32
        go_simp
        refine hK.out _ _ HY.out (fun _ => ?_)
        clear hK K
        refine wpAnyH_done (by kernel_rfl) ?_ _
        go_wp2_with fail
        go_meet
        exact ⟨_, rfl, FIN.out⟩
    · go_simp
      have g34 : (((w.alloc (.cells c.cells 31)).alloc (.cells (⟨0, ⟨#[]⟩, 0, false, none, 0, 0, 0⟩ : Nc).cells 31)).drew).grownBy ((((w.alloc (.cells c.cells 31)).alloc (.cells (⟨0, ⟨#[]⟩, 0, false, none, 0, 0, 0⟩ : Nc).cells 31)).drew).alloc (.cells c.cells 31)) (some b) := gb_of_below (by go_grown) b
      have zg34 := g34.size
      (try simp at zg34)
      have hh35 := hold1_gb hHeld g34 hq4
      refine hK.out _ _ hh35 (fun _ => ?_)
      clear hK K
      have S36 := S0.alloc (.cells c.cells 31)
      refine wpAnyH_ready (rs := [1, 6]) (by kernel_rfl) (by simp) ?_
      refine .cons rfl (fun K hK => ?_) (.cons rfl (fun K hK => ?_) .nil)
      · go_simp
        go_wp2_with (go_at_call 52; refine (PA.out _ S36.rd).mono ?_; rintro e w5 ⟨rfl, s5⟩)
        have g37 : ((((w.alloc (.cells c.cells 31)).alloc (.cells (⟨0, ⟨#[]⟩, 0, false, none, 0, 0, 0⟩ : Nc).cells 31)).drew).alloc (.cells c.cells 31)).grownBy (w5) (some b) := s5.gb
        have zg37 := g37.size
        (try simp at zg37)
        have hh38 := hold1_gb hh35 g37 hq4
        refine hK.out _ _ hh38 (fun _ => ?_)
        clear hK K
        have S39 := S36.next s5
        refine wpAnyH_take (i := 2) (v := ?_) rfl (by kernel_rfl) (by kernel_rfl) (by kernel_rfl) (fun _ _ _ h => h) (Or.inl ⟨by rfl, ?yk40⟩) hh38 ?rk40
        case yk40 => (intro w2 hSw; (try dsimp only at hSw); go_simp; try rfl)
        simp only [Act.put, List.setIfInBounds_toArray, List.set_cons_zero, List.set_cons_succ]
        refine wpAnyH_ready (rs := [5, 6]) (by kernel_rfl) (by simp) ?_
        refine .cons rfl (fun K hK => ?_) (.cons rfl (fun K hK => ?_) .nil)
        · go_simp
          go_wp2_with (go_at_call 59; refine (node_any _ _ _ _ _ _).mono ?_; rintro e w6 ⟨rfl, hb6⟩)
          have g41 : (w5).grownBy (w6) (some b) := gb_of_below hb6 b
          have zg41 := g41.size
          (try simp at zg41)
          have hh42 := hold1_gb hh38 g41 hq4
          refine hK.out _ _ hh42 (fun _ => ?_)
          clear hK K
          have S43 := S39.below hb6
          refine wpAnyH_ready (rs := [6]) (by kernel_rfl) (by simp) ?_
          refine .cons rfl (fun K hK => ?_) .nil
          go_simp
          have g44 : (w6).grownBy ((w6).alloc (.cells (⟨0, ⟨#[]⟩, 0, false, none, 0, 0, 0⟩ : Nc).cells 31)) (some b) := gb_of_below (by go_grown) b
          have zg44 := g44.size
          (try simp at zg44)
          have hh45 := hold1_gb hh42 g44 hq4
          refine hK.out _ _ hh45 (fun _ => ?_)
          clear hK K
          have S46 := S43.alloc (.cells (⟨0, ⟨#[]⟩, 0, false, none, 0, 0, 0⟩ : Nc).cells 31)
          refine wpAnyH_ready (rs := [7]) (by kernel_rfl) (by simp) ?_
          refine .cons rfl (fun K hK => ?_) .nil
          have rm47 : roomAt ((w6).alloc (.cells (⟨0, ⟨#[]⟩, 0, false, none, 0, 0, 0⟩ : Nc).cells 31)) (w6.heap.size) 6 = true := roomNd_new _ _ _ _ (by simp)
          have n8 : w.heap.size + 1 < w6.heap.size := (by first | omega | (simp; done) | (simp; omega))
          have nb : w.heap.size + 1 < w.heap.size + 2 := (by first | omega | (simp; done) | (simp; omega))
          have db : w.heap.size + 2 ≠ w6.heap.size := (by first | omega | (simp; done) | (simp; omega))
          have SY : St w (putRow ((w6).alloc (.cells (⟨0, ⟨#[]⟩, 0, false, none, 0, 0, 0⟩ : Nc).cells 31)) (w6.heap.size) (⟨32, ⟨#[]⟩, 0, false, some ⟨w.heap.size + 2, 0, none⟩, 1, 1, (tk.p : Int)⟩ : Nc).cells) b g cap L (i + 1) o := S46.old bl gl _ (by omega) _
          have m6 : roomAt (putRow ((w6).alloc (.cells (⟨0, ⟨#[]⟩, 0, false, none, 0, 0, 0⟩ : Nc).cells 31)) (w6.heap.size) (⟨32, ⟨#[]⟩, 0, false, some ⟨w.heap.size + 2, 0, none⟩, 1, 1, (tk.p : Int)⟩ : Nc).cells) (w.heap.size + 1) 6 = true := (room_far _ _ _ _ _ (by omega)).trans ((room_gb (gb_trans (gb_trans (gb_trans g34 g37) g41) g44) (by first | omega | (simp; done) | (simp; omega)) (by omega) 6).trans ((roomAt_drew _ _ _).trans (roomNd_new _ _ _ _ (by simp))))
          have mb : (putRow ((w6).alloc (.cells (⟨0, ⟨#[]⟩, 0, false, none, 0, 0, 0⟩ : Nc).cells 31)) (w6.heap.size) (⟨32, ⟨#[]⟩, 0, false, some ⟨w.heap.size + 2, 0, none⟩, 1, 1, (tk.p : Int)⟩ : Nc).cells).heap[w.heap.size + 2]? = some (.cells c.cells 31 (0, 0)) := (put_far _ _ _ _ db).trans ((((gb_trans (gb_trans g37 g41) g44)).block (w.heap.size + 2) (by first | omega | (simp; done) | (simp; omega)) (by intro e; injection e with e; first | omega | (simp at e; omega))).trans (heap_new' _ _ (by simp)))
          have FIN : Hid (FldAt w (putRow ((w6).alloc (.cells (⟨0, ⟨#[]⟩, 0, false, none, 0, 0, 0⟩ : Nc).cells 31)) (w6.heap.size) (⟨32, ⟨#[]⟩, 0, false, some ⟨w.heap.size + 2, 0, none⟩, 1, 1, (tk.p : Int)⟩ : Nc).cells) b g cap L (i + 1) o 32 c tk (w6.heap.size)) := ⟨w.heap.size + 2, SY, rowNd_put _ _ _ rm47, room_keep rm47 _ rfl, m6, n8, nb, db, mb⟩
          have HY : Hid (rowAt (putRow ((w6).alloc (.cells (⟨0, ⟨#[]⟩, 0, false, none, 0, 0, 0⟩ : Nc).cells 31)) (w6.heap.size) (⟨32, ⟨#[]⟩, 0, false, some ⟨w.heap.size + 2, 0, none⟩, 1, 1, (tk.p : Int)⟩ : Nc).cells) w.heap.size = some c.cells) := (row_far _ _ _ _ (by omega)).trans hh45
          clear SY m6 mb nb n8 db s5 g34 g37 g41 g44 S46
          rw [putNd_new _ _ _ _ _ (by simp)] at FIN HY
          go_simp
          refine hK.out _ _ HY.out (fun _ => ?_)
          clear hK K
          refine wpAnyH_done (by kernel_rfl) ?_ _
          go_wp2_with fail
          go_meet
          exact ⟨_, rfl, FIN.out⟩
        · go_simp
          have g48 : (w5).grownBy ((w5).alloc (.cells (⟨0, ⟨#[]⟩, 0, false, none, 0, 0, 0⟩ : Nc).cells 31)) (some b) := gb_of_below (by go_grown) b
          have zg48 := g48.size
          (try simp at zg48)
          have hh49 := hold1_gb hh38 g48 hq4
          refine hK.out _ _ hh49 (fun _ => ?_)
          clear hK K
          have S50 := S39.alloc (.cells (⟨0, ⟨#[]⟩, 0, false, none, 0, 0, 0⟩ : Nc).cells 31)
          refine wpAnyH_ready (rs := [5]) (by kernel_rfl) (by simp) ?_
          refine .cons rfl (fun K hK => ?_) .nil
          go_simp
          go_wp2_with (go_at_call 59; refine (node_any _ _ _ _ _ _).mono ?_; rintro e w6 ⟨rfl, hb6⟩)
          have g51 : ((w5).alloc (.cells (⟨0, ⟨#[]⟩, 0, false, none, 0, 0, 0⟩ : Nc).cells 31)).grownBy (w6) (some b) := gb_of_below hb6 b
          have zg51 := g51.size
          (try simp at zg51)
          have hh52 := hold1_gb hh49 g51 hq4
          refine hK.out _ _ hh52 (fun _ => ?_)
          clear hK K
          have S53 := S50.below hb6
          refine wpAnyH_ready (rs := [7]) (by kernel_rfl) (by simp) ?_
          refine .cons rfl (fun K hK => ?_) .nil
          have rm54 : roomAt (w6) (w5.heap.size) 6 = true := (room_gb g51 (by first | omega | (simp; done) | (simp; omega)) (by first | omega | (simp; done) | (simp; omega)) 6).trans (roomNd_new _ _ _ _ (by simp))
          have n8 : w.heap.size + 1 < w5.heap.size := (by first | omega | (simp; done) | (simp; omega))
          have nb : w.heap.size + 1 < w.heap.size + 2 := (by first | omega | (simp; done) | (simp; omega))
          have db : w.heap.size + 2 ≠ w5.heap.size := (by first | omega | (simp; done) | (simp; omega))
          have SY : St w (putRow (w6) (w5.heap.size) (⟨32, ⟨#[]⟩, 0, false, some ⟨w.heap.size + 2, 0, none⟩, 1, 1, (tk.p : Int)⟩ : Nc).cells) b g cap L (i + 1) o := S53.old bl gl _ (by omega) _
          have m6 : roomAt (putRow (w6) (w5.heap.size) (⟨32, ⟨#[]⟩, 0, false, some ⟨w.heap.size + 2, 0, none⟩, 1, 1, (tk.p : Int)⟩ : Nc).cells) (w.heap.size + 1) 6 = true := (room_far _ _ _ _ _ (by omega)).trans ((room_gb (gb_trans (gb_trans (gb_trans g34 g37) g48) g51) (by first | omega | (simp; done) | (simp; omega)) (by omega) 6).trans ((roomAt_drew _ _ _).trans (roomNd_new _ _ _ _ (by simp))))
          have mb : (putRow (w6) (w5.heap.size) (⟨32, ⟨#[]⟩, 0, false, some ⟨w.heap.size + 2, 0, none⟩, 1, 1, (tk.p : Int)⟩ : Nc).cells).heap[w.heap.size + 2]? = some (.cells c.cells 31 (0, 0)) := (put_far _ _ _ _ db).trans ((((gb_trans (gb_trans g37 g48) g51)).block (w.heap.size + 2) (by first | omega | (simp; done) | (simp; omega)) (by intro e; injection e with e; first | omega | (simp at e; omega))).trans (heap_new' _ _ (by simp)))
          have FIN : Hid (FldAt w (putRow (w6) (w5.heap.size) (⟨32, ⟨#[]⟩, 0, false, some ⟨w.heap.size + 2, 0, none⟩, 1, 1, (tk.p : Int)⟩ : Nc).cells) b g cap L (i + 1) o 32 c tk (w5.heap.size)) := ⟨w.heap.size + 2, SY, rowNd_put _ _ _ rm54, room_keep rm54 _ rfl, m6, n8, nb, db, mb⟩
          have HY : Hid (rowAt (putRow (w6) (w5.heap.size) (⟨32, ⟨#[]⟩, 0, false, some ⟨w.heap.size + 2, 0, none⟩, 1, 1, (tk.p : Int)⟩ : Nc).cells) w.heap.size = some c.cells) := (row_far _ _ _ _ (by omega)).trans hh52
          clear SY m6 mb nb n8 db s5 g34 g37 g48 g51 S53
          go_simp
          refine hK.out _ _ HY.out (fun _ => ?_)
          clear hK K
          refine wpAnyH_done (by kernel_rfl) ?_ _
          go_wp2_with fail
          go_meet
          exact ⟨_, rfl, FIN.out⟩
      · go_simp
        have g55 : ((((w.alloc (.cells c.cells 31)).alloc (.cells (⟨0, ⟨#[]⟩, 0, false, none, 0, 0, 0⟩ : Nc).cells 31)).drew).alloc (.cells c.cells 31)).grownBy (((((w.alloc (.cells c.cells 31)).alloc (.cells (⟨0, ⟨#[]⟩, 0, false, none, 0, 0, 0⟩ : Nc).cells 31)).drew).alloc (.cells c.cells 31)).alloc (.cells (⟨0, ⟨#[]⟩, 0, false, none, 0, 0, 0⟩ : Nc).cells 31)) (some b) := gb_of_below (by go_grown) b
        have zg55 := g55.size
        (try simp at zg55)
        have hh56 := hold1_gb hh35 g55 hq4
        refine hK.out _ _ hh56 (fun _ => ?_)
        clear hK K
        have S57 := S36.alloc (.cells (⟨0, ⟨#[]⟩, 0, false, none, 0, 0, 0⟩ : Nc).cells 31)
        refine wpAnyH_ready (rs := [1]) (by kernel_rfl) (by simp) ?_
        refine .cons rfl (fun K hK => ?_) .nil
        go_simp
        go_wp2_with (go_at_call 52; refine (PA.out _ S57.rd).mono ?_; rintro e w5 ⟨rfl, s5⟩)
        have g58 : (((((w.alloc (.cells c.cells 31)).alloc (.cells (⟨0, ⟨#[]⟩, 0, false, none, 0, 0, 0⟩ : Nc).cells 31)).drew).alloc (.cells c.cells 31)).alloc (.cells (⟨0, ⟨#[]⟩, 0, false, none, 0, 0, 0⟩ : Nc).cells 31)).grownBy (w5) (some b) := s5.gb
        have zg58 := g58.size
        (try simp at zg58)
        have hh59 := hold1_gb hh56 g58 hq4
        refine hK.out _ _ hh59 (fun _ => ?_)
        clear hK K
        have S60 := S57.next s5
        refine wpAnyH_take (i := 2) (v := ?_) rfl (by kernel_rfl) (by kernel_rfl) (by kernel_rfl) (fun _ _ _ h => h) (Or.inl ⟨by rfl, ?yk61⟩) hh59 ?rk61
        case yk61 => (intro w2 hSw; (try dsimp only at hSw); go_simp; try rfl)
        simp only [Act.put, List.setIfInBounds_toArray, List.set_cons_zero, List.set_cons_succ]
        refine wpAnyH_ready (rs := [5]) (by kernel_rfl) (by simp) ?_
        refine .cons rfl (fun K hK => ?_) .nil
        go_simp
        go_wp2_with (go_at_call 59; refine (node_any _ _ _ _ _ _).mono ?_; rintro e w6 ⟨rfl, hb6⟩)
        have g62 : (w5).grownBy (w6) (some b) := gb_of_below hb6 b
        have zg62 := g62.size
        (try simp at zg62)
        have hh63 := hold1_gb hh59 g62 hq4
        refine hK.out _ _ hh63 (fun _ => ?_)
        clear hK K
        have S64 := S60.below hb6
        refine wpAnyH_ready (rs := [7]) (by kernel_rfl) (by simp) ?_
        refine .cons rfl (fun K hK => ?_) .nil
        have rm65 : roomAt (w6) (w.heap.size + 2 + 1) 6 = true := (room_gb (gb_trans g58 g62) (by first | omega | (simp; done) | (simp; omega)) (by first | omega | (simp; done) | (simp; omega)) 6).trans (roomNd_new _ _ _ _ (by simp))
        have n8 : w.heap.size + 1 < w.heap.size + 2 + 1 := (by first | omega | (simp; done) | (simp; omega))
        have nb : w.heap.size + 1 < w.heap.size + 2 := (by first | omega | (simp; done) | (simp; omega))
        have db : w.heap.size + 2 ≠ w.heap.size + 2 + 1 := (by first | omega | (simp; done) | (simp; omega))
        have SY : St w (putRow (w6) (w.heap.size + 2 + 1) (⟨32, ⟨#[]⟩, 0, false, some ⟨w.heap.size + 2, 0, none⟩, 1, 1, (tk.p : Int)⟩ : Nc).cells) b g cap L (i + 1) o := S64.old bl gl _ (by omega) _
        have m6 : roomAt (putRow (w6) (w.heap.size + 2 + 1) (⟨32, ⟨#[]⟩, 0, false, some ⟨w.heap.size + 2, 0, none⟩, 1, 1, (tk.p : Int)⟩ : Nc).cells) (w.heap.size + 1) 6 = true := (room_far _ _ _ _ _ (by omega)).trans ((room_gb (gb_trans (gb_trans (gb_trans g34 g55) g58) g62) (by first | omega | (simp; done) | (simp; omega)) (by omega) 6).trans ((roomAt_drew _ _ _).trans (roomNd_new _ _ _ _ (by simp))))
        have mb : (putRow (w6) (w.heap.size + 2 + 1) (⟨32, ⟨#[]⟩, 0, false, some ⟨w.heap.size + 2, 0, none⟩, 1, 1, (tk.p : Int)⟩ : Nc).cells).heap[w.heap.size + 2]? = some (.cells c.cells 31 (0, 0)) := (put_far _ _ _ _ db).trans ((((gb_trans (gb_trans g55 g58) g62)).block (w.heap.size + 2) (by first | omega | (simp; done) | (simp; omega)) (by intro e; injection e with e; first | omega | (simp at e; omega))).trans (heap_new' _ _ (by simp)))
        have FIN : Hid (FldAt w (putRow (w6) (w.heap.size + 2 + 1) (⟨32, ⟨#[]⟩, 0, false, some ⟨w.heap.size + 2, 0, none⟩, 1, 1, (tk.p : Int)⟩ : Nc).cells) b g cap L (i + 1) o 32 c tk (w.heap.size + 2 + 1)) := ⟨w.heap.size + 2, SY, rowNd_put _ _ _ rm65, room_keep rm65 _ rfl, m6, n8, nb, db, mb⟩
        have HY : Hid (rowAt (putRow (w6) (w.heap.size + 2 + 1) (⟨32, ⟨#[]⟩, 0, false, some ⟨w.heap.size + 2, 0, none⟩, 1, 1, (tk.p : Int)⟩ : Nc).cells) w.heap.size = some c.cells) := (row_far _ _ _ _ (by omega)).trans hh63
        clear SY m6 mb nb n8 db s5 g34 g55 g58 g62 S64
        go_simp
        refine hK.out _ _ HY.out (fun _ => ?_)
        clear hK K
        refine wpAnyH_done (by kernel_rfl) ?_ _
        go_wp2_with fail
        go_meet
        exact ⟨_, rfl, FIN.out⟩
    · go_simp
      have g66 : (((w.alloc (.cells c.cells 31)).alloc (.cells (⟨0, ⟨#[]⟩, 0, false, none, 0, 0, 0⟩ : Nc).cells 31)).drew).grownBy ((((w.alloc (.cells c.cells 31)).alloc (.cells (⟨0, ⟨#[]⟩, 0, false, none, 0, 0, 0⟩ : Nc).cells 31)).drew).alloc (.cells (⟨0, ⟨#[]⟩, 0, false, none, 0, 0, 0⟩ : Nc).cells 31)) (some b) := gb_of_below (by go_grown) b
      have zg66 := g66.size
      (try simp at zg66)
      have hh67 := hold1_gb hHeld g66 hq4
      refine hK.out _ _ hh67 (fun _ => ?_)
      clear hK K
      have S68 := S0.alloc (.cells (⟨0, ⟨#[]⟩, 0, false, none, 0, 0, 0⟩ : Nc).cells 31)
      refine wpAnyH_ready (rs := [1, 4]) (by kernel_rfl) (by simp) ?_
      refine .cons rfl (fun K hK => ?_) (.cons rfl (fun K hK => ?_) .nil)
      · go_simp
        go_wp2_with (go_at_call 52; refine (PA.out _ S68.rd).mono ?_; rintro e w5 ⟨rfl, s5⟩)
        have g69 : ((((w.alloc (.cells c.cells 31)).alloc (.cells (⟨0, ⟨#[]⟩, 0, false, none, 0, 0, 0⟩ : Nc).cells 31)).drew).alloc (.cells (⟨0, ⟨#[]⟩, 0, false, none, 0, 0, 0⟩ : Nc).cells 31)).grownBy (w5) (some b) := s5.gb
        have zg69 := g69.size
        (try simp at zg69)
        have hh70 := hold1_gb hh67 g69 hq4
        refine hK.out _ _ hh70 (fun _ => ?_)
        clear hK K
        have S71 := S68.next s5
        refine wpAnyH_take (i := 2) (v := ?_) rfl (by kernel_rfl) (by kernel_rfl) (by kernel_rfl) (fun _ _ _ h => h) (Or.inl ⟨by rfl, ?yk72⟩) hh70 ?rk72
        case yk72 => (intro w2 hSw; (try dsimp only at hSw); go_simp; try rfl)
        simp only [Act.put, List.setIfInBounds_toArray, List.set_cons_zero, List.set_cons_succ]
        refine wpAnyH_ready (rs := [4]) (by kernel_rfl) (by simp) ?_
        refine .cons rfl (fun K hK => ?_) .nil
        go_simp
        have g73 : (w5).grownBy ((w5).alloc (.cells c.cells 31)) (some b) := gb_of_below (by go_grown) b
        have zg73 := g73.size
        (try simp at zg73)
        have hh74 := hold1_gb hh70 g73 hq4
        refine hK.out _ _ hh74 (fun _ => ?_)
        clear hK K
        have S75 := S71.alloc (.cells c.cells 31)
        refine wpAnyH_ready (rs := [5]) (by kernel_rfl) (by simp) ?_
        refine .cons rfl (fun K hK => ?_) .nil
        go_simp
        go_wp2_with (go_at_call 59; refine (node_any _ _ _ _ _ _).mono ?_; rintro e w6 ⟨rfl, hb6⟩)
        have g76 : ((w5).alloc (.cells c.cells 31)).grownBy (w6) (some b) := gb_of_below hb6 b
        have zg76 := g76.size
        (try simp at zg76)
        have hh77 := hold1_gb hh74 g76 hq4
        refine hK.out _ _ hh77 (fun _ => ?_)
        clear hK K
        have S78 := S75.below hb6
        refine wpAnyH_ready (rs := [7]) (by kernel_rfl) (by simp) ?_
        refine .cons rfl (fun K hK => ?_) .nil
        have rm79 : roomAt (w6) (w.heap.size + 2) 6 = true := (room_gb (gb_trans (gb_trans g69 g73) g76) (by first | omega | (simp; done) | (simp; omega)) (by first | omega | (simp; done) | (simp; omega)) 6).trans (roomNd_new _ _ _ _ (by simp))
        have n8 : w.heap.size + 1 < w.heap.size + 2 := (by first | omega | (simp; done) | (simp; omega))
        have nb : w.heap.size + 1 < w5.heap.size := (by first | omega | (simp; done) | (simp; omega))
        have db : w5.heap.size ≠ w.heap.size + 2 := (by first | omega | (simp; done) | (simp; omega))
        have SY : St w (putRow (w6) (w.heap.size + 2) (⟨32, ⟨#[]⟩, 0, false, some ⟨w5.heap.size, 0, none⟩, 1, 1, (tk.p : Int)⟩ : Nc).cells) b g cap L (i + 1) o := S78.old bl gl _ (by omega) _
        have m6 : roomAt (putRow (w6) (w.heap.size + 2) (⟨32, ⟨#[]⟩, 0, false, some ⟨w5.heap.size, 0, none⟩, 1, 1, (tk.p : Int)⟩ : Nc).cells) (w.heap.size + 1) 6 = true := (room_far _ _ _ _ _ (by omega)).trans ((room_gb (gb_trans (gb_trans (gb_trans g66 g69) g73) g76) (by first | omega | (simp; done) | (simp; omega)) (by omega) 6).trans ((roomAt_drew _ _ _).trans (roomNd_new _ _ _ _ (by simp))))
        have mb : (putRow (w6) (w.heap.size + 2) (⟨32, ⟨#[]⟩, 0, false, some ⟨w5.heap.size, 0, none⟩, 1, 1, (tk.p : Int)⟩ : Nc).cells).heap[w5.heap.size]? = some (.cells c.cells 31 (0, 0)) := (put_far _ _ _ _ db).trans (((g76).block (w5.heap.size) (by first | omega | (simp; done) | (simp; omega)) (by intro e; injection e with e; first | omega | (simp at e; omega))).trans (heap_new' _ _ (by simp)))
        have FIN : Hid (FldAt w (putRow (w6) (w.heap.size + 2) (⟨32, ⟨#[]⟩, 0, false, some ⟨w5.heap.size, 0, none⟩, 1, 1, (tk.p : Int)⟩ : Nc).cells) b g cap L (i + 1) o 32 c tk (w.heap.size + 2)) := ⟨w5.heap.size, SY, rowNd_put _ _ _ rm79, room_keep rm79 _ rfl, m6, n8, nb, db, mb⟩
        have HY : Hid (rowAt (putRow (w6) (w.heap.size + 2) (⟨32, ⟨#[]⟩, 0, false, some ⟨w5.heap.size, 0, none⟩, 1, 1, (tk.p : Int)⟩ : Nc).cells) w.heap.size = some c.cells) := (row_far _ _ _ _ (by omega)).trans hh77
        clear SY m6 mb nb n8 db s5 g66 g69 g73 g76 S78
        go_simp
        refine hK.out _ _ HY.out (fun _ => ?_)
        clear hK K
        refine wpAnyH_done (by kernel_rfl) ?_ _
        go_wp2_with fail
        go_meet
        exact ⟨_, rfl, FIN.out⟩
      · go_simp
        have g80 : ((((w.alloc (.cells c.cells 31)).alloc (.cells (⟨0, ⟨#[]⟩, 0, false, none, 0, 0, 0⟩ : Nc).cells 31)).drew).alloc (.cells (⟨0, ⟨#[]⟩, 0, false, none, 0, 0, 0⟩ : Nc).cells 31)).grownBy (((((w.alloc (.cells c.cells 31)).alloc (.cells (⟨0, ⟨#[]⟩, 0, false, none, 0, 0, 0⟩ : Nc).cells 31)).drew).alloc (.cells (⟨0, ⟨#[]⟩, 0, false, none, 0, 0, 0⟩ : Nc).cells 31)).alloc (.cells c.cells 31)) (some b) := gb_of_below (by go_grown) b
        have zg80 := g80.size
        (try simp at zg80)
        have hh81 := hold1_gb hh67 g80 hq4
        refine hK.out _ _ hh81 (fun _ => ?_)
        clear hK K
        have S82 := S68.alloc (.cells c.cells 31)
        refine wpAnyH_ready (rs := [1]) (by kernel_rfl) (by simp) ?_
        refine .cons rfl (fun K hK => ?_) .nil
        go_simp
        go_wp2_with (go_at_call 52; refine (PA.out _ S82.rd).mono ?_; rintro e w5 ⟨rfl, s5⟩)
        have g83 : (((((w.alloc (.cells c.cells 31)).alloc (.cells (⟨0, ⟨#[]⟩, 0, false, none, 0, 0, 0⟩ : Nc).cells 31)).drew).alloc (.cells (⟨0, ⟨#[]⟩, 0, false, none, 0, 0, 0⟩ : Nc).cells 31)).alloc (.cells c.cells 31)).grownBy (w5) (some b) := s5.gb
        have zg83 := g83.size
        (try simp at zg83)
        have hh84 := hold1_gb hh81 g83 hq4
        refine hK.out _ _ hh84 (fun _ => ?_)
        clear hK K
        have S85 := S82.next s5
        refine wpAnyH_take (i := 2) (v := ?_) rfl (by kernel_rfl) (by kernel_rfl) (by kernel_rfl) (fun _ _ _ h => h) (Or.inl ⟨by rfl, ?yk86⟩) hh84 ?rk86
        case yk86 => (intro w2 hSw; (try dsimp only at hSw); go_simp; try rfl)
        simp only [Act.put, List.setIfInBounds_toArray, List.set_cons_zero, List.set_cons_succ]
        refine wpAnyH_ready (rs := [5]) (by kernel_rfl) (by simp) ?_
        refine .cons rfl (fun K hK => ?_) .nil
        go_simp
        go_wp2_with (go_at_call 59; refine (node_any _ _ _ _ _ _).mono ?_; rintro e w6 ⟨rfl, hb6⟩)
        have g87 : (w5).grownBy (w6) (some b) := gb_of_below hb6 b
        have zg87 := g87.size
        (try simp at zg87)
        have hh88 := hold1_gb hh84 g87 hq4
        refine hK.out _ _ hh88 (fun _ => ?_)
        clear hK K
        have S89 := S85.below hb6
        refine wpAnyH_ready (rs := [7]) (by kernel_rfl) (by simp) ?_
        refine .cons rfl (fun K hK => ?_) .nil
        have rm90 : roomAt (w6) (w.heap.size + 2) 6 = true := (room_gb (gb_trans (gb_trans g80 g83) g87) (by first | omega | (simp; done) | (simp; omega)) (by first | omega | (simp; done) | (simp; omega)) 6).trans (roomNd_new _ _ _ _ (by simp))
        have n8 : w.heap.size + 1 < w.heap.size + 2 := (by first | omega | (simp; done) | (simp; omega))
        have nb : w.heap.size + 1 < w.heap.size + 2 + 1 := (by first | omega | (simp; done) | (simp; omega))
        have db : w.heap.size + 2 + 1 ≠ w.heap.size + 2 := (by first | omega | (simp; done) | (simp; omega))
        have SY : St w (putRow (w6) (w.heap.size + 2) (⟨32, ⟨#[]⟩, 0, false, some ⟨w.heap.size + 2 + 1, 0, none⟩, 1, 1, (tk.p : Int)⟩ : Nc).cells) b g cap L (i + 1) o := S89.old bl gl _ (by omega) _
        have m6 : roomAt (putRow (w6) (w.heap.size + 2) (⟨32, ⟨#[]⟩, 0, false, some ⟨w.heap.size + 2 + 1, 0, none⟩, 1, 1, (tk.p : Int)⟩ : Nc).cells) (w.heap.size + 1) 6 = true := (room_far _ _ _ _ _ (by omega)).trans ((room_gb (gb_trans (gb_trans (gb_trans g66 g80) g83) g87) (by first | omega | (simp; done) | (simp; omega)) (by omega) 6).trans ((roomAt_drew _ _ _).trans (roomNd_new _ _ _ _ (by simp))))
        have mb : (putRow (w6) (w.heap.size + 2) (⟨32, ⟨#[]⟩, 0, false, some ⟨w.heap.size + 2 + 1, 0, none⟩, 1, 1, (tk.p : Int)⟩ : Nc).cells).heap[w.heap.size + 2 + 1]? = some (.cells c.cells 31 (0, 0)) := (put_far _ _ _ _ db).trans ((((gb_trans g83 g87)).block (w.heap.size + 2 + 1) (by first | omega | (simp; done) | (simp; omega)) (by intro e; injection e with e; first | omega | (simp at e; omega))).trans (heap_new' _ _ (by simp)))
        have FIN : Hid (FldAt w (putRow (w6) (w.heap.size + 2) (⟨32, ⟨#[]⟩, 0, false, some ⟨w.heap.size + 2 + 1, 0, none⟩, 1, 1, (tk.p : Int)⟩ : Nc).cells) b g cap L (i + 1) o 32 c tk (w.heap.size + 2)) := ⟨w.heap.size + 2 + 1, SY, rowNd_put _ _ _ rm90, room_keep rm90 _ rfl, m6, n8, nb, db, mb⟩
        have HY : Hid (rowAt (putRow (w6) (w.heap.size + 2) (⟨32, ⟨#[]⟩, 0, false, some ⟨w.heap.size + 2 + 1, 0, none⟩, 1, 1, (tk.p : Int)⟩ : Nc).cells) w.heap.size = some c.cells) := (row_far _ _ _ _ (by omega)).trans hh88
        clear SY m6 mb nb n8 db s5 g66 g80 g83 g87 S89
        go_simp
        refine hK.out _ _ HY.out (fun _ => ?_)
        clear hK K
        refine wpAnyH_done (by kernel_rfl) ?_ _
        go_wp2_with fail
        go_meet
        exact ⟨_, rfl, FIN.out⟩
  case rest =>
    obtain ⟨q, rfl, blk, SY, ry, my, m6, n8, nb, db, mb⟩ := hcut
    clear PA S0
    by_cases hn : (hd (L.drop (i + 1))).k = 1
    · have NY : Hid (Calls Tryd.prog 53 #[.pointer (some ⟨b, 0, none⟩)] wc _) := name_yes wc b g cap L (i + 1) o SY.rd hn
      have HR := HY0.out hn
      clear hn HY0 HN0
      generalize hd (L.drop (i + 1)) = tn at NY HR
      have HR : Hid (R = _) := HR
      have wl : w.heap.size + 1 < wc.heap.size := Nat.lt_trans n8 (row_lt ry)
      have ql := row_lt ry
      have A0 : Hid (St w wc b g cap L (i + 1) o ∧ wc.heap[blk]? = some (.cells c.cells 31 (0, 0))) := ⟨SY, mb⟩
      clear SY mb
      go_wp2_with (go_at_call 53; refine NY.out.mono ?_; rintro e w9 ⟨rfl, s9⟩; have r9 : rowAt w9 q = some _ := (s9.row ql (by omega)).trans ry; have m9 : roomAt w9 (w.heap.size + 1) 6 = true := (s9.room wl (by omega) 6).trans m6; have k9 : roomAt w9 q 6 = true := (s9.room ql (by omega) 6).trans my; have f9 : w9.frozen? ⟨q, 1, none⟩ = false := (by have := (room_there k9 1 (by omega)).2; rwa [Nat.zero_add] at this); have c9 := rowAt_cell r9; have ry2 : rowAt (w9.setCell ⟨q, 1, none⟩ (.string tn.tk.t)) q = some (⟨32, tn.tk.t, 0, false, some ⟨blk, 0, none⟩, 1, 1, (tk.p : Int)⟩ : Nc).cells := rowAt_set _ _ _ _ _ r9; have my2 : roomAt (w9.setCell ⟨q, 1, none⟩ (.string tn.tk.t)) (w.heap.size + 1) 6 = true := (roomAt_far _ _ _ _ _ (by show w.heap.size + 1 ≠ q; omega)).trans m9)
      have S9 := A0.out.1.next s9
      have bk9 : (putRow (w9.setCell ⟨q, 1, none⟩ (.string tn.tk.t)) (w.heap.size + 1) (⟨32, tn.tk.t, 0, false, some ⟨blk, 0, none⟩, 1, 1, (tk.p : Int)⟩ : Nc).cells).heap[blk]? = some (.cells c.cells 31 (0, 0)) := (put_far _ _ _ _ (by omega)).trans ((Below.heap_setCell _ _ _ _ (by show blk ≠ q; omega)).trans ((s9.gb.block blk (Array.getElem?_eq_some_iff.1 A0.out.2).1 (fun e => by injection e with e; omega)).trans A0.out.2))
      rw [HR.out]
      exact ret_cell1 rfl rfl (loadNd_row (rowNd_put _ _ _ my2)) rfl ⟨_, i + 1 + 1, rfl, rfl, by omega, (S9.far bl gl q 1 (by omega) _).old bl gl _ (by omega) _, one_made 32 tn.t tk.p (hP2 _ (by omega)) bk9 (HC.out.keep (fun x hx _ => hx) (by rw [size_put]; simpa using S9.gb.size) (fun x hx hl => (put_far _ _ _ _ (by omega)).trans ((Below.heap_setCell _ _ _ _ (by show x ≠ q; omega)).trans (S9.gb.block x hl (fun e => by injection e with e; exact hP1 x hx e)))))⟩
    · have NN : Hid (Calls Tryd.prog 53 #[.pointer (some ⟨b, 0, none⟩)] wc _) := name_no wc b g cap L (i + 1) o SY.rd hn
      have HR := HN0.out hn
      clear hn HY0 HN0
      generalize (hd (L.drop (i + 1))).p = pp at NN HR
      have HR : Hid (R = _) := HR
      go_wp2_with (go_at_call 53; refine NN.out.mono ?_; rintro e w9 ⟨he, g9⟩; unfold gaveUp at he; subst he)
      first | rw [HR.out] | skip
      exact ⟨rfl, rfl, gb_trans SY.gb g9⟩
end Go.Proofs.YtllhcjmabhempaaDoor
