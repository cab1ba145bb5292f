/-
  Layer 9, the document's: Expr.
  Layer 9: the walk of TreeExprs.
  From what the program's text lays into the tables of keywords and signs to how they lie; the way from a contract to a row; texts that came in.
  Proved: for every text the law TreeExprs returns true, where the tables of keywords and signs hold what their initialisers lay: an expression is read as the document reads it. No other condition.
-/
import Derived.Test.YtejcjhoojpoamaaDoorDfa
import Derived.Test.YtejcjhoojpoamaaDoorMWho
import Derived.Test.YtejcjhoojpoamaaDoorMRf7
import Derived.Test.YtejcjhoojpoamaaDoorMSme
import Derived.Test.YtejcjhoojpoamaaDoorTkn
import Derived.Test.YtejcjhoojpoamaaDoorTie
import Derived.Test.YtejcjhoojpoamaaDoorCards
import Derived.SliceStrings
import Derived.MakeChecks
import Derived.Lay
import Derived.LaidMore
import Derived.SevenTiedAt
import Derived.JoinedOf
import Derived.ChangeSame
import Derived.Handed
import Derived.SizedLaws
import Derived.ChangeOld
import Derived.Below
import Derived.Shelf.Vars
import Derived.ChangeMaps5
namespace Go.Proofs.YtejcjhoojpoamaaDoor
set_option linter.unusedVariables false
set_option linter.unusedSimpArgs false
open Go.ChangeShapes Go.WideShapes Go.ChangeAt Go.RowKit
attribute [local go_sem ↓] loadTk_seal storeTk_seal loadKeys_seal loadSigns_seal
attribute [local go_sem] loadTk_run storeTk_run rowAt_at rowAt_old rowAt_drew rowAt_drewN roomTk_new roomAt_old roomAt_drew roomAt_drewN putTk_new Tk.fold putRow_past rowTk_put size_put putRow_drew putRow_drewN alloc_drewN setCell_drewN Tk.at0 Tk.at1 Tk.at2 Tk.at3 Tk.size Tk.set0 Tk.set1 Tk.set2 Tk.set3 Tk.ne rowAt_set rowAt_far roomAt_far
attribute [local go_sem ↓] loadNd_seal storeNd_seal
attribute [local go_sem] loadNd_run storeNd_run roomNd_new putNd_new Nc.fold rowNd_put Nc.at0 Nc.at1 Nc.at2 Nc.at3 Nc.at4 Nc.at5 Nc.size Nc.set0 Nc.set1 Nc.set2 Nc.set3 Nc.set4 Nc.set5 Nc.ne
attribute [local go_sem] fieldTk0 fieldTk3
attribute [local go_sem ↓] bslNd_seal
attribute [local go_sem] bslNd1_run bslNd2_run

set_option maxHeartbeats 4000000 in
set_option maxRecDepth 20000 in
theorem next_e (w : World) (b g cap : Nat) (L : List Tok) (i : Nat) (o er p : Int) (h : DAt w b g cap L i o er p) (hn : ¬ i + 1 < L.length) :
    Calls Tryd.prog 36 #[.pointer (some ⟨b, 0, none⟩)] w fun e w' => e = .returned (.agg (hd (L.drop i)).tk.cells) ∧ Below w.heap.size w w' := by
  have HE : Hid (∀ X, DAt X b g cap L i o er p → Calls Tryd.prog 39 #[.pointer (some ⟨b, 0, none⟩)] X _) := fun X hX => peek_d X b g cap L i o er p hX
  have hll := h.ll
  have hil := h.il
  have H : Hid (DAt w b g cap L i o er p) := h
  have bl := h.bl
  have hb1 : decide ((i : Int) < (L.length : Int) - 1) = false := by simp; omega
  have hb2 : ¬ (i : Int) < (L.length : Int) - 1 := by omega
  clear h
  generalize hd (L.drop i) = x at HE
  go_enter Tryd.func36, Tryd.ntmps36
  go_wp2_with (go_at_call 39; refine (HE.out _ (H.out.alloc _)).mono ?_; rintro e w1 ⟨rfl, hb1'⟩; have hs1 := hb1'.size; simp at hs1; have hB : Below w.heap.size w w1 := (by go_grown : Below w.heap.size w (w.alloc (.cells ({ k := 0, t := ⟨#[]⟩, n := 0, p := 0 } : Tk).cells 38))).trans (hb1'.mono (by simp)); have R1 : Hid (DAt w1 b g cap L i o er p) := H.out.below hB; have bl1 := R1.out.bl; have hl1 : w.heap.size < w1.heap.size := (by omega); have hn1 : w.heap.size ≠ b := (by omega); have c0 := R1.out.c0; have c1 := R1.out.c1; have p0 : roomAt w1 w.heap.size 4 = true := (roomAt_below hb1' _ _ (by simp)).trans (roomTk_new _ _ _ _ rfl))
  go_region
  go_wp2
  exact ret_cell1 rfl rfl (loadTk_row (c := x.tk) ((rowAt_drew _ _).trans ((rowAt_old _ _ _ (by rw [size_put]; omega)).trans (rowTk_put _ _ _ p0)))) rfl ⟨rfl, ((below_put hB _ (Nat.le_refl _) _).alloc (by rw [size_put]; omega) _).drew⟩
set_option maxHeartbeats 4000000 in
set_option maxRecDepth 20000 in
theorem next_n (w : World) (b g cap : Nat) (L : List Tok) (i : Nat) (o er p : Int) (h : DAt w b g cap L i o er p) (hn : i + 1 < L.length) :
    Calls Tryd.prog 36 #[.pointer (some ⟨b, 0, none⟩)] w fun e w' => e = .returned (.agg (hd (L.drop i)).tk.cells) ∧ Ds w w' b g cap L (i + 1) o er p := by
  have HE : Hid (∀ X, DAt X b g cap L i o er p → Calls Tryd.prog 39 #[.pointer (some ⟨b, 0, none⟩)] X _) := fun X hX => peek_d X b g cap L i o er p hX
  have hll := h.ll
  have H : Hid (DAt w b g cap L i o er p) := h
  have bl := h.bl
  have hb1 : decide ((i : Int) < (L.length : Int) - 1) = true := by simp; omega
  have hb2 : (i : Int) < (L.length : Int) - 1 := by omega
  clear h
  generalize hd (L.drop i) = x at HE
  go_enter Tryd.func36, Tryd.ntmps36
  go_wp2_with (go_at_call 39; refine (HE.out _ (H.out.alloc _)).mono ?_; rintro e w1 ⟨rfl, hb1⟩; have hs1 := hb1.size; simp at hs1; have hB : Below w.heap.size w w1 := (by go_grown : Below w.heap.size w (w.alloc (.cells ({ k := 0, t := ⟨#[]⟩, n := 0, p := 0 } : Tk).cells 38))).trans (hb1.mono (by simp)); have R1 : Hid (DAt w1 b g cap L i o er p) := H.out.below hB; have bl1 := R1.out.bl; have hl1 : w.heap.size < w1.heap.size := (by omega); have hn1 : w.heap.size ≠ b := (by omega); have c0 := R1.out.c0; have c1 := R1.out.c1; have fz := R1.out.fz; have p0 : roomAt w1 w.heap.size 4 = true := (roomAt_below hb1 _ _ (by simp)).trans (roomTk_new _ _ _ _ rfl))
  go_region
  go_wp2
  have R2 := (((R1.out.setI (i + 1) hn).put w.heap.size x.tk.cells (by omega) (by have := H.out.gl; omega)).alloc (.cells x.tk.cells 38)).drew
  exact ret_cell1 rfl rfl (loadTk_row (c := x.tk) ((rowAt_drew _ _).trans ((rowAt_old _ _ _ (by rw [size_put]; simp; omega)).trans (rowTk_put _ _ _ ((roomAt_far _ _ _ _ _ (by simpa using hn1)).trans p0))))) rfl ⟨rfl, by simpa using R2, gb_drew (gb_alloc (gb_put (gb_set (gb_of_below hB b)) (Nat.le_refl _)) _)⟩
/-- What goes on at a token of whatever kind. -/
theorem next_w (w : World) (b g cap : Nat) (L : List Tok) (i : Nat) (o er p : Int) (h : DAt w b g cap L i o er p) :
    Calls Tryd.prog 36 #[.pointer (some ⟨b, 0, none⟩)] w fun e w' => e = .returned (.agg (hd (L.drop i)).tk.cells) ∧ ∃ i', Ds w w' b g cap L i' o er p := by
  by_cases hn : i + 1 < L.length
  · exact (next_n w b g cap L i o er p h hn).mono fun e w' ⟨a, s⟩ => ⟨a, _, s⟩
  · exact (next_e w b g cap L i o er p h hn).mono fun e w' ⟨a, s⟩ => ⟨a, i, (Ds.refl h).below s⟩
set_option maxHeartbeats 4000000 in
set_option maxRecDepth 20000 in
theorem must_w (w : World) (b g cap : Nat) (L : List Tok) (i : Nat) (o er p : Int) (h : DAt w b g cap L i o er p) :
    Calls Tryd.prog 20 #[.pointer (some ⟨b, 0, none⟩), .bool true] w fun e w' => e = .returned (.agg (hd (L.drop i)).tk.cells) ∧ ∃ i', Ds w w' b g cap L i' o er p := by
  have PA : Hid (∀ X, DAt X b g cap L i o er p → Calls Tryd.prog 36 #[.pointer (some ⟨b, 0, none⟩)] X _) := fun X hX => next_w X b g cap L i o er p hX
  have H : Hid (DAt w b g cap L i o er p) := h
  have bl := h.bl
  have gl := h.gl
  clear h
  generalize (hd (L.drop i)).tk = x at PA ⊢
  go_enter Tryd.func20, Tryd.ntmps20
  go_wp2_with (go_at_call 36; refine (PA.out _ (H.out.alloc _)).mono ?_; rintro e w2 ⟨rfl, i2, s2⟩; have s3 := ((Ds.refl H.out).alloc _).next s2; have p2 : roomAt w2 w.heap.size 4 = true := (s2.room (by simp) (by omega) 4).trans (roomTk_new _ _ _ _ (by simp)))
  exact ret_cell1 rfl rfl (loadTk_row (c := x) (rowTk_put _ _ _ p2)) rfl ⟨rfl, i2, s3.old bl gl _ (Nat.le_refl _) _⟩
theorem dd_new {W : World} {g cp : Nat} {L : List Tok} (hs : L.length ≤ 16385 ∧ ∀ q (hq : q < L.length), L[q].k ≠ 0 → q + 1 < L.length) (hg : g < W.heap.size) (htok : ∀ i (hi : i < L.length), ∀ j, j < 4 → W.cell? ⟨g, i * 4 + j, none⟩ = L[i].tk.cells[j]?) (hne : 0 < L.length) :
    DAt (W.alloc (.cells (drC g cp L 0 0 0 0) 49)) W.heap.size g cp L 0 0 0 0 := by
  have hb : Below W.heap.size W (W.alloc (.cells (drC g cp L 0 0 0 0) 49)) := (Below.refl _ _).alloc (Nat.le_refl _) _
  exact { blk := heap_new' _ _ rfl, ne := by omega, gl := by simp; omega, tok := fun q hq j hj => (hb.cell (p := ⟨g, q * 4 + j, none⟩) hg).trans (htok q hq j hj), il := hne, ll := by omega, last := hs.2 }
set_option maxHeartbeats 4000000 in
set_option maxRecDepth 20000 in
theorem rexpr_fails (l : Bs) (w : World) (he : (allP l).e ≠ 0) : Calls Tryd.prog 10 #[.string (bs l)] w (PostA w (zeroN, (allP l).p, (allP l).e)) := by
  have AL : Hid (∀ X, Calls Tryd.prog 18 #[.string (bs l)] X _) := fun X => rall_any l X
  have n0 : ((allP l).e != 0) = true := by simpa using he
  clear he
  generalize allP l = A at *
  go_enter Tryd.func10, Tryd.ntmps10
  go_wp2_with (go_at_call 18; refine (AL.out (w.alloc (.cells ({ k := 0, t := ⟨#[]⟩, n := 0, f := false, a := none, l := 0, m := 0, p := 0 } : Nc).cells 25))).mono ?_; rintro e w1 ⟨v, rfl, ho, hb1⟩; have hs1 := hb1.size; simp at hs1; have m1 : roomAt w1 w.heap.size 6 = true := (roomAt_below hb1 _ _ (by simp)).trans (roomNd_new _ _ _ _ rfl); have hl1 : w.heap.size < w1.heap.size := (by omega); have hB : Hid (Below w.heap.size w w1) := (by go_grown : Below w.heap.size w (w.alloc (.cells ({ k := 0, t := ⟨#[]⟩, n := 0, f := false, a := none, l := 0, m := 0, p := 0 } : Nc).cells 25))).trans (hb1.mono (by simp)))
  exact ret3 rfl rfl (loadNd_row (rowNd_put _ _ _ m1)) rfl rfl rfl ⟨nc0, rfl, NdAt.mk 0 [] 0 false [] 0 none 0 (KidsAt.nil _ _), below_put hB.out _ (Nat.le_refl _) _⟩
theorem below_gb {X Y : World} {B b : Nat} (hb : B ≤ b) (hs : B ≤ X.heap.size) (hg : X.grownBy Y (some b)) : Below B X Y :=
  (Below.refl B X).grown hg hs (fun j hj => by injection hj with hj; omega)
set_option maxHeartbeats 4000000 in
set_option maxRecDepth 20000 in
theorem rexpr_good (l : Bs) (w : World) (he : (allP l).e = 0) : Calls Tryd.prog 10 #[.string (bs l)] w (PostA w (ansP .expr l)) := by
  have AL : Hid (∀ X, Calls Tryd.prog 18 #[.string (bs l)] X _) := fun X => rall_any l X
  obtain ⟨d, xx, e1, e2, e3, e4⟩ := allP_shape l he
  have hlast := allP_last l he
  have hne : (allP l).ts ≠ [] := by rw [e1]; simp
  have n0 : ((allP l).e != 0) = false := by rw [he]; rfl
  have HA : Hid (ansP .expr l = (match run ((allP l).ts.length * 40 + 40) .expr 0 (allP l).ts with
    | .bad p e => (zeroN, p, e)
    | .ok n r => if (hd r).k = 0 then (n, 0, 0) else (zeroN, (hd r).p, 90))) := by
    show ansP .expr l = _
    unfold ansP; rw [if_neg (by rw [he]; simp)]; rfl
  have HS : Hid ((allP l).ts.length ≤ 16385 ∧ ∀ q (hq : q < (allP l).ts.length), (allP l).ts[q].k ≠ 0 → q + 1 < (allP l).ts.length) := ⟨e3, hlast⟩
  have HOK : Hid (∀ x ∈ (allP l).ts, okT x) := allP_ok l
  generalize ansP .expr l = RR at HA ⊢
  clear he e1 e2 e3 e4 hlast
  generalize allP l = A at *
  have EX : Hid (∀ X b g cp, DAt X b g cp A.ts 0 0 0 0 → Calls Tryd.prog 19 #[.pointer (some ⟨b, 0, none⟩)] X (PostD X b g cp A.ts 0 0 (run (A.ts.length * 40 + 40) .expr 0 A.ts))) := fun X b g cp hX => by
    have := (dexprs_all (A.ts.length * 40 + 40) (A.ts.length * 40 + 40) (Nat.le_refl _)).1 X b g cp A.ts 0 0 hX (by omega) HOK.out (by show (A.ts.length - 0) * 40 + 20 ≤ _; omega)
    rwa [List.drop_zero] at this
  cases hr : run (A.ts.length * 40 + 40) .expr 0 A.ts with
  | bad p er =>
    rw [hr] at EX HA
    have HA : Hid (RR = (zeroN, p, er)) := HA
    clear hr
    have KD : Hid (∀ X i5 o5 b g cp, DAt X b g cp A.ts i5 o5 er (p : Int) → er ≠ 0 → Calls Tryd.prog 21 #[.pointer (some ⟨b, 0, none⟩), .int .i64 0] X fun e w' => e = .returned (.bool false) ∧ Below X.heap.size X w') := fun X i5 o5 b g cp hX he => by have := kind_d X b g cp A.ts i5 o5 er p hX 0; rwa [kd_dead he] at this
    go_enter Tryd.func10, Tryd.ntmps10
    go_wp2_with (first
      | (go_at_call 18; refine (AL.out (w.alloc (.cells ({ k := 0, t := ⟨#[]⟩, n := 0, f := false, a := none, l := 0, m := 0, p := 0 } : Nc).cells 25))).mono ?_; rintro e w1 ⟨v, rfl, ho, hb1⟩; have hs1 := hb1.size; simp at hs1; have m1 : roomAt w1 w.heap.size 6 = true := (roomAt_below hb1 _ _ (by simp)).trans (roomNd_new _ _ _ _ rfl); have hl1 : w.heap.size < w1.heap.size := (by omega); have hB : Hid (Below w.heap.size w w1) := (by go_grown : Below w.heap.size w (w.alloc (.cells ({ k := 0, t := ⟨#[]⟩, n := 0, f := false, a := none, l := 0, m := 0, p := 0 } : Nc).cells 25))).trans (hb1.mono (by simp)); obtain ⟨g, cp, rfl, hg1, hg2, htok⟩ := own_at3 ho hne; simp at hg1; clear ho)
      | (go_at_call 19; have D0 : DAt (w1.alloc (.cells (drC g cp A.ts 0 0 0 0) 49)) w1.heap.size g cp A.ts 0 0 0 0 := dd_new HS.out hg2 htok (List.length_pos_iff.2 hne); refine (EX.out _ _ _ _ D0).mono ?_; rintro e w5 ⟨c5, i5, o5, rfl, he5, s5⟩; have hs5 := s5.size; simp at hs5; have m5 : roomAt w5 w.heap.size 6 = true := (s5.room (by simp; omega) (by omega) 6).trans ((roomAt_old _ _ _ _ (by omega)).trans m1); have B5 : Hid (Below w.heap.size w w5) := hB.out.trans (below_gb (b := w1.heap.size) (by omega) (by omega) (gb_trans (gb_of_below ((Below.refl _ _).alloc (Nat.le_refl _) _) w1.heap.size) s5.gb)); have R5 : Hid (DAt w5 w1.heap.size g cp A.ts i5 o5 er (p : Int)) := s5.rd)
      | (go_at_call 21; refine (KD.out _ _ _ _ _ _ (R5.out.alloc _) he5).mono ?_; rintro e w6 ⟨rfl, hb6⟩; have hs6 := hb6.size; simp at hs6; have r6 : rowAt w6 w5.heap.size = some c5.cells := (rowAt_below hb6 _ (by simp)).trans (rowAt_at _ _ _ _ _ rfl); have m6 : roomAt w6 w.heap.size 6 = true := (roomAt_below hb6 _ _ (by simp; omega)).trans ((roomAt_old _ _ _ _ (by omega)).trans m5); have R6 : Hid (DAt w6 w1.heap.size g cp A.ts i5 o5 er (p : Int)) := (R5.out.alloc _).below hb6; have B6 : Hid (Below w.heap.size w w6) := B5.out.trans ((((Below.refl _ _).alloc (Nat.le_refl _) _).trans (hb6.mono (by simp))).mono (by omega)))
      | (go_at_call 20; refine (must_f_dead _ _ _ _ _ i5 o5 er p R6.out he5).mono ?_; rintro e w7 ⟨rfl, s7⟩; have ee : (er != 0) = true := (by simpa using he5); have hs7 := s7.size; have r7 : rowAt w7 w5.heap.size = some c5.cells := (s7.row (by omega) (by omega)).trans r6; have m7 : roomAt w7 w.heap.size 6 = true := (s7.room (by omega) (by omega) 6).trans m6; have R7 := s7.rd; have c37 := R7.c3; have c47 := R7.c4; have l7 := R7.bl; have P3 : ∀ X, (putRow w7 w.heap.size X).cell? ⟨w1.heap.size, 3, none⟩ = _ := (fun X => (World.cell?_of_block (a := ⟨w1.heap.size, 3, none⟩) (put_far _ _ _ _ (by show w1.heap.size ≠ w.heap.size; omega))).trans c37); have P4 : ∀ X, (putRow w7 w.heap.size X).cell? ⟨w1.heap.size, 4, none⟩ = _ := (fun X => (World.cell?_of_block (a := ⟨w1.heap.size, 4, none⟩) (put_far _ _ _ _ (by show w1.heap.size ≠ w.heap.size; omega))).trans c47); have n57 : w5.heap.size ≠ w1.heap.size := (by omega); have B7 : Hid (Below w.heap.size w w7) := B6.out.trans (below_gb (b := w1.heap.size) (by omega) (by omega) s7.gb)))
    have M7 := storeNd_run _ _ ({ k := 0, t := ⟨#[]⟩, n := 0, f := false, a := none, l := 0, m := 0, p := 0 } : Nc) ((roomAt_drew _ _ _).trans m7)
    go_region
    go_wp2
    rw [HA.out]
    exact ret3 rfl rfl (loadNd_row ((rowAt_drew _ _).trans (rowNd_put _ _ _ m7))) rfl rfl rfl ⟨nc0, rfl, NdAt.mk 0 [] 0 false [] 0 none 0 (KidsAt.nil _ _), (below_put B7.out _ (Nat.le_refl _) _).drew⟩
  | ok n r =>
    rw [hr] at EX HA
    clear hr
    by_cases hk : (hd r).k = 0
    · have HA : Hid (RR = (n, 0, 0)) := by
        show RR = _
        rw [HA.out]; show (if (hd r).k = 0 then (n, 0, 0) else (zeroN, (hd r).p, 90)) = _
        rw [if_pos hk]
      have KD : Hid (∀ X i5 b g cp, DAt X b g cp A.ts i5 ((0 : Nat) : Int) 0 0 → r = A.ts.drop i5 → Calls Tryd.prog 21 #[.pointer (some ⟨b, 0, none⟩), .int .i64 0] X fun e w' => e = .returned (.bool true) ∧ Below X.heap.size X w') := fun X i5 b g cp hX e5 => by have := kind_d X b g cp A.ts i5 _ 0 0 hX 0; rwa [kd_live, ← e5, show decide ((hd r).k = 0) = true by simpa using hk] at this
      clear hk
      go_enter Tryd.func10, Tryd.ntmps10
      go_wp2_with (first
        | (go_at_call 18; refine (AL.out (w.alloc (.cells ({ k := 0, t := ⟨#[]⟩, n := 0, f := false, a := none, l := 0, m := 0, p := 0 } : Nc).cells 25))).mono ?_; rintro e w1 ⟨v, rfl, ho, hb1⟩; have hs1 := hb1.size; simp at hs1; have m1 : roomAt w1 w.heap.size 6 = true := (roomAt_below hb1 _ _ (by simp)).trans (roomNd_new _ _ _ _ rfl); have hl1 : w.heap.size < w1.heap.size := (by omega); have hB : Hid (Below w.heap.size w w1) := (by go_grown : Below w.heap.size w (w.alloc (.cells ({ k := 0, t := ⟨#[]⟩, n := 0, f := false, a := none, l := 0, m := 0, p := 0 } : Nc).cells 25))).trans (hb1.mono (by simp)); obtain ⟨g, cp, rfl, hg1, hg2, htok⟩ := own_at3 ho hne; simp at hg1; clear ho)
        | (go_at_call 19; have D0 : DAt (w1.alloc (.cells (drC g cp A.ts 0 0 0 0) 49)) w1.heap.size g cp A.ts 0 0 0 0 := dd_new HS.out hg2 htok (List.length_pos_iff.2 hne); refine (EX.out _ _ _ _ D0).mono ?_; rintro e w5 ⟨c5, i5, rfl, ht5, hi5, s5, nd5⟩; have hs5 := s5.size; simp at hs5; have m5 : roomAt w5 w.heap.size 6 = true := (s5.room (by simp; omega) (by omega) 6).trans ((roomAt_old _ _ _ _ (by omega)).trans m1); have B5 : Hid (Below w.heap.size w w5) := hB.out.trans (below_gb (b := w1.heap.size) (by omega) (by omega) (gb_trans (gb_of_below ((Below.refl _ _).alloc (Nat.le_refl _) _) w1.heap.size) s5.gb)); have R5 : Hid (DAt w5 w1.heap.size g cp A.ts i5 ((0 : Nat) : Int) 0 0) := s5.rd)
        | (go_at_call 21; refine (KD.out _ _ _ _ _ (R5.out.alloc _) ht5).mono ?_; rintro e w6 ⟨rfl, hb6⟩; have hs6 := hb6.size; simp at hs6; have r6 : rowAt w6 w5.heap.size = some c5.cells := (rowAt_below hb6 _ (by simp)).trans (rowAt_at _ _ _ _ _ rfl); have m6 : roomAt w6 w.heap.size 6 = true := (roomAt_below hb6 _ _ (by simp; omega)).trans ((roomAt_old _ _ _ _ (by omega)).trans m5); have R6 : Hid (DAt w6 w1.heap.size g cp A.ts i5 ((0 : Nat) : Int) 0 0) := (R5.out.alloc _).below hb6; have B6 : Hid (Below w.heap.size w w6) := B5.out.trans ((((Below.refl _ _).alloc (Nat.le_refl _) _).trans (hb6.mono (by simp))).mono (by omega)))
        | (go_at_call 20; refine (must_w _ _ _ _ _ i5 _ 0 0 R6.out).mono ?_; rintro e w7 ⟨rfl, i7, s7⟩; have hs7 := s7.size; have r7 : rowAt w7 w5.heap.size = some c5.cells := (s7.row (by omega) (by omega)).trans r6; have m7 : roomAt w7 w.heap.size 6 = true := (s7.room (by omega) (by omega) 6).trans m6; have R7 := s7.rd; have c37 := R7.c3; have c47 := R7.c4; have l7 := R7.bl; have P3 : ∀ X, (putRow w7 w.heap.size X).cell? ⟨w1.heap.size, 3, none⟩ = _ := (fun X => (World.cell?_of_block (a := ⟨w1.heap.size, 3, none⟩) (put_far _ _ _ _ (by show w1.heap.size ≠ w.heap.size; omega))).trans c37); have P4 : ∀ X, (putRow w7 w.heap.size X).cell? ⟨w1.heap.size, 4, none⟩ = _ := (fun X => (World.cell?_of_block (a := ⟨w1.heap.size, 4, none⟩) (put_far _ _ _ _ (by show w1.heap.size ≠ w.heap.size; omega))).trans c47); have n57 : w5.heap.size ≠ w1.heap.size := (by omega); have B7 : Hid (Below w.heap.size w w7) := B6.out.trans (below_gb (b := w1.heap.size) (by omega) (by omega) s7.gb)))
      rw [HA.out]
      exact ret3 rfl rfl (loadNd_row (rowNd_put _ _ _ m7)) rfl rfl rfl ⟨c5, rfl, nd5.keep (fun x hx _ => by simp at hx; omega) (by rw [size_put]; omega) (fun x hx hl => (put_far _ _ _ _ (by simp at hx; omega)).trans ((s7.gb.block x (by omega) (fun e => by injection e with e; simp at hx; omega)).trans ((hb6.block x (by simp; omega)).trans (((Below.refl _ _).alloc (Nat.le_refl _) _).block x hl)))), below_put B7.out _ (Nat.le_refl _) _⟩
    · have HA : Hid (RR = (zeroN, (hd r).p, 90)) := by
        show RR = _
        rw [HA.out]; show (if (hd r).k = 0 then (n, 0, 0) else (zeroN, (hd r).p, 90)) = _
        rw [if_neg hk]
      have KD : Hid (∀ X i5 b g cp, DAt X b g cp A.ts i5 ((0 : Nat) : Int) 0 0 → r = A.ts.drop i5 → Calls Tryd.prog 21 #[.pointer (some ⟨b, 0, none⟩), .int .i64 0] X fun e w' => e = .returned (.bool false) ∧ Below X.heap.size X w') := fun X i5 b g cp hX e5 => by have := kind_d X b g cp A.ts i5 _ 0 0 hX 0; rwa [kd_live, ← e5, show decide ((hd r).k = 0) = false by simpa using hk] at this
      clear hk
      go_enter Tryd.func10, Tryd.ntmps10
      go_wp2_with (first
        | (go_at_call 18; refine (AL.out (w.alloc (.cells ({ k := 0, t := ⟨#[]⟩, n := 0, f := false, a := none, l := 0, m := 0, p := 0 } : Nc).cells 25))).mono ?_; rintro e w1 ⟨v, rfl, ho, hb1⟩; have hs1 := hb1.size; simp at hs1; have m1 : roomAt w1 w.heap.size 6 = true := (roomAt_below hb1 _ _ (by simp)).trans (roomNd_new _ _ _ _ rfl); have hl1 : w.heap.size < w1.heap.size := (by omega); have hB : Hid (Below w.heap.size w w1) := (by go_grown : Below w.heap.size w (w.alloc (.cells ({ k := 0, t := ⟨#[]⟩, n := 0, f := false, a := none, l := 0, m := 0, p := 0 } : Nc).cells 25))).trans (hb1.mono (by simp)); obtain ⟨g, cp, rfl, hg1, hg2, htok⟩ := own_at3 ho hne; simp at hg1; clear ho)
        | (go_at_call 19; have D0 : DAt (w1.alloc (.cells (drC g cp A.ts 0 0 0 0) 49)) w1.heap.size g cp A.ts 0 0 0 0 := dd_new HS.out hg2 htok (List.length_pos_iff.2 hne); refine (EX.out _ _ _ _ D0).mono ?_; rintro e w5 ⟨c5, i5, rfl, ht5, hi5, s5, nd5⟩; have hs5 := s5.size; simp at hs5; have m5 : roomAt w5 w.heap.size 6 = true := (s5.room (by simp; omega) (by omega) 6).trans ((roomAt_old _ _ _ _ (by omega)).trans m1); have B5 : Hid (Below w.heap.size w w5) := hB.out.trans (below_gb (b := w1.heap.size) (by omega) (by omega) (gb_trans (gb_of_below ((Below.refl _ _).alloc (Nat.le_refl _) _) w1.heap.size) s5.gb)); have R5 : Hid (DAt w5 w1.heap.size g cp A.ts i5 ((0 : Nat) : Int) 0 0) := s5.rd)
        | (go_at_call 21; refine (KD.out _ _ _ _ _ (R5.out.alloc _) ht5).mono ?_; rintro e w6 ⟨rfl, hb6⟩; have hs6 := hb6.size; simp at hs6; have r6 : rowAt w6 w5.heap.size = some c5.cells := (rowAt_below hb6 _ (by simp)).trans (rowAt_at _ _ _ _ _ rfl); have m6 : roomAt w6 w.heap.size 6 = true := (roomAt_below hb6 _ _ (by simp; omega)).trans ((roomAt_old _ _ _ _ (by omega)).trans m5); have R6 : Hid (DAt w6 w1.heap.size g cp A.ts i5 ((0 : Nat) : Int) 0 0) := (R5.out.alloc _).below hb6; have B6 : Hid (Below w.heap.size w w6) := B5.out.trans ((((Below.refl _ _).alloc (Nat.le_refl _) _).trans (hb6.mono (by simp))).mono (by omega)))
        | (go_at_call 20; refine (must_f_live _ _ _ _ _ i5 _ 0 R6.out).mono ?_; rintro e w7 ⟨rfl, s7⟩; have hs7 := s7.size; have r7 : rowAt w7 w5.heap.size = some c5.cells := (s7.row (by omega) (by omega)).trans r6; have m7 : roomAt w7 w.heap.size 6 = true := (s7.room (by omega) (by omega) 6).trans m6; have R7 := s7.rd; have c37 := R7.c3; have c47 := R7.c4; have l7 := R7.bl; have P3 : ∀ X, (putRow w7 w.heap.size X).cell? ⟨w1.heap.size, 3, none⟩ = _ := (fun X => (World.cell?_of_block (a := ⟨w1.heap.size, 3, none⟩) (put_far _ _ _ _ (by show w1.heap.size ≠ w.heap.size; omega))).trans c37); have P4 : ∀ X, (putRow w7 w.heap.size X).cell? ⟨w1.heap.size, 4, none⟩ = _ := (fun X => (World.cell?_of_block (a := ⟨w1.heap.size, 4, none⟩) (put_far _ _ _ _ (by show w1.heap.size ≠ w.heap.size; omega))).trans c47); have n57 : w5.heap.size ≠ w1.heap.size := (by omega); have B7 : Hid (Below w.heap.size w w7) := B6.out.trans (below_gb (b := w1.heap.size) (by omega) (by omega) s7.gb)))
      have M7 := storeNd_run _ _ ({ k := 0, t := ⟨#[]⟩, n := 0, f := false, a := none, l := 0, m := 0, p := 0 } : Nc) ((roomAt_drew _ _ _).trans m7)
      go_region
      go_wp2
      rw [HA.out, ht5]
      exact ret3 rfl rfl (loadNd_row ((rowAt_drew _ _).trans (rowNd_put _ _ _ m7))) rfl rfl rfl ⟨nc0, rfl, NdAt.mk 0 [] 0 false [] 0 none 0 (KidsAt.nil _ _), (below_put B7.out _ (Nat.le_refl _) _).drew⟩
theorem rexpr_any (l : Bs) (w : World) : Calls Tryd.prog 10 #[.string (bs l)] w (PostA w (ansP .expr l)) := by
  by_cases he : (allP l).e = 0
  · exact rexpr_good l w he
  · have := rexpr_fails l w he
    unfold ansP
    rwa [if_pos he]
end Go.Proofs.YtejcjhoojpoamaaDoor

namespace Go.Proofs.YtejcjhoojpoamaaDoor
set_option linter.unusedVariables false
set_option linter.unusedSimpArgs false
open Go.ChangeShapes Go.WideShapes Go.ChangeAt Go.RowKit
attribute [local go_sem ↓] loadTk_seal storeTk_seal loadKeys_seal loadSigns_seal
attribute [local go_sem] loadTk_run storeTk_run rowAt_at rowAt_old rowAt_drew rowAt_drewN roomTk_new roomAt_old roomAt_drew roomAt_drewN putTk_new Tk.fold putRow_past rowTk_put size_put putRow_drew putRow_drewN alloc_drewN setCell_drewN Tk.at0 Tk.at1 Tk.at2 Tk.at3 Tk.size Tk.set0 Tk.set1 Tk.set2 Tk.set3 Tk.ne rowAt_set rowAt_far roomAt_far
attribute [local go_sem ↓] loadNd_seal storeNd_seal
attribute [local go_sem] loadNd_run storeNd_run roomNd_new putNd_new Nc.fold rowNd_put Nc.at0 Nc.at1 Nc.at2 Nc.at3 Nc.at4 Nc.at5 Nc.size Nc.set0 Nc.set1 Nc.set2 Nc.set3 Nc.set4 Nc.set5 Nc.ne

def shL : Bs := [49, 32, 43, 32, 120]
def shN : Nd := .mk 37 [43] 0 false [.mk 24 [] 1 false [] 0, .mk 31 [120] 0 false [] 4] 2
theorem sh_ans : ansP .expr shL = (shN, 0, 0) := by kernel_rfl
set_option maxHeartbeats 4000000 in
set_option maxRecDepth 20000 in
theorem shown9 (w : World) (V : Vars w) : Calls Tryd.prog 8 #[] w fun e w' => e = .returned (.bool true) ∧ Below w.heap.size w w' := by
  have EX : Hid (Calls Tryd.prog 9 #[.string (bs shL)] w (PostA w (shN, 0, 0))) := by
    have := expr_any shL w V
    rwa [sh_ans] at this
  clear V
  have xb : ((bs [43]).toList == [43]) = true := by kernel_rfl
  have xc : (bs [43]).toList = [43] := by kernel_rfl
  go_enter Tryd.func8, Tryd.ntmps8
  go_wp2_with (go_at_call 9; refine EX.out.mono ?_; rintro e w1 ⟨c, rfl, nd, hb⟩; have hs := hb.size; have hc : ∃ a m, c = ⟨37, bs [43], 0, false, a, 2, m, 2⟩ := (by cases nd; exact ⟨_, _, rfl⟩); obtain ⟨a, m, rfl⟩ := hc)
  go_ret
  exact ⟨rfl, by go_grown⟩
/-- What is read is small. -/
theorem ans_small (l : Bs) : Kb 20000 (ansP .expr l).1 := by
  unfold ansP
  split
  · exact Kb.zero _ _ _ _ _
  · rename_i he
    have he : (allP l).e = 0 := by omega
    obtain ⟨_, _, _, _, hl, _⟩ := allP_shape l he
    split
    · exact Kb.zero _ _ _ _ _
    · rename_i n r hr
      split
      · exact (run_small 20000 (by decide) _ _ _ _ _ _ hr trivial (by simp only [acL]; omega)).1
      · exact Kb.zero _ _ _ _ _
set_option maxHeartbeats 4000000 in
set_option maxRecDepth 20000 in
theorem exprs_any (s : ByteArray) (w : World) (V : Vars w) : Calls Tryd.prog 3 #[.string s] w fun e w' => e = .returned (.bool true) ∧ Below w.heap.size w w' := by
  rw [← bs_of s]
  generalize s.data.toList = l
  have SH := shown9 w V
  have E1 : Hid (∀ X, Below w.heap.size w X → Calls Tryd.prog 9 #[.string (bs l)] X (PostA X (ansP .expr l))) := fun X hX => expr_any l X (V.below hX V.big2)
  have E2 : Hid (∀ X, Calls Tryd.prog 10 #[.string (bs l)] X (PostA X (ansP .expr l))) := fun X => rexpr_any l X
  have KS := ans_small l
  generalize ansP .expr l = A at E1 E2 KS
  obtain ⟨n, p, e⟩ := A
  have SM : Hid (∀ X P Q c d, NdAt X P c n → NdAt X Q d n → Calls Tryd.prog 11 #[.agg c.cells, .agg d.cells, .bool true] X _) := fun X P Q c d h1 h2 => same_nd (by decide) KS X P Q c d true h1 h2
  clear V KS
  have x1 : ((p : Int) == (p : Int)) = true := by simp
  have x2 : (e == e) = true := by simp
  go_enter Tryd.func3, Tryd.ntmps3
  go_wp2_with (first
    | (go_at_call 11; refine (SM.out _ _ _ c1 c2 N1.out N2.out).mono ?_; rintro e' w5 ⟨rfl, hb5⟩)
    | (go_at_call 10; refine (E2.out _).mono ?_; rintro e' w2 ⟨c2, rfl, nd2, hb2⟩; have hs2 := hb2.size; simp at hs2; have r2 : rowAt w2 w1.heap.size = some c1.cells := (rowAt_below hb2 _ (by simp)).trans (rowAt_at _ _ _ _ _ rfl); have hn2 : w1.heap.size ≠ w2.heap.size := (by omega); have b2' : Below w1.heap.size w1 w2 := ((Below.refl _ _).alloc (Nat.le_refl _) _).trans (hb2.mono (by simp)); have bal : Below w2.heap.size w2 (w2.alloc (.cells c2.cells 25)) := (Below.refl _ _).alloc (Nat.le_refl _) _; have N1 : Hid (NdAt (w2.alloc (.cells c2.cells 25)) (fun x => w0.heap.size ≤ x) c1 n) := nd1.keep (fun _ hx _ => hx) (by simp; omega) (fun x _ hl => (bal.block x (by omega)).trans (b2'.block x hl)); have N2 : Hid (NdAt (w2.alloc (.cells c2.cells 25)) (fun x => (w1.alloc (.cells c1.cells 25)).heap.size ≤ x) c2 n) := nd2.keep (fun _ hx _ => hx) (by simp) (fun x _ hl => bal.block x hl))
    | (go_at_call 9; refine (E1.out _ hb0).mono ?_; rintro e' w1 ⟨c1, rfl, nd1, hb1⟩; have hs1 := hb1.size)
    | (go_at_call 8; refine SH.mono ?_; rintro e' w0 ⟨rfl, hb0⟩; have hs0 := hb0.size))
  go_ret
  exact ⟨rfl, hb0.trans ((hb1.mono (by omega)).trans ((b2'.mono (by omega)).trans ((bal.mono (by omega)).trans (hb5.mono (by simp; omega)))))⟩
end Go.Proofs.YtejcjhoojpoamaaDoor

namespace Go.Proofs.YtejcjhoojpoamaaDoor
set_option linter.unusedVariables false
set_option linter.unusedSimpArgs false
open Go.ChangeShapes Go.WideShapes Go.ChangeAt Go.RowKit

theorem at_of {l : List Value} {k : Nat} {v : Value} (h : (l.drop k).take 1 = [v]) : l[k]? = some v := by
  have : ((l.drop k).take 1)[0]? = some v := by rw [h]; rfl
  simpa using this
theorem some_of {α : Type} {xs : List α} {n i : Nat} (h : xs.length = n) (hi : i < n) : ∃ y, xs[i]? = some y := ⟨xs[i]'(by omega), List.getElem?_eq_getElem (by omega)⟩
theorem Tryd.cells9 : Tryd.prog.cellsOf 9 = 1 := by kernel_rfl
/-- One listed variable: its block, its cells, what they read as. -/
def OneIs (W : World) (n : String) (d : DataW Unit) : Prop := ∃ g t cs fuel p, Tryd.prog.globalNamed n = some g ∧ (Tryd.prog.globals[g]?).map (·.type) = some t ∧ W.var? Tryd.prog n = some cs ∧ DataW.trod (fun _ => ()) Tryd.prog W 0 (fun _ => true) false fuel t cs.toList = some (d, p)
theorem laid_each {W : World} : ∀ {l : List (String × DataW Unit)} {ps : List MemPlace}, DataW.LaidVars Tryd.prog W l ps → ∀ x ∈ l, OneIs W x.1 x.2
  | [], _, _, x, hx => by cases hx
  | (n, d) :: r, ps, ⟨g, t, cs, fuel, p, q, h1, h2, h3, h4, h5, _⟩, x, hx => by
    rcases List.mem_cons.1 hx with rfl | hx
    · exact ⟨g, t, cs, fuel, p, h1, h2, h3, h4⟩
    · exact laid_each h5 x hx
theorem strs_of {W : World} {n : String} {ls : List Bs} {g t m : Nat} (h : OneIs W n (.agg (ls.map fun s => .lit (.string s)))) (hg : Tryd.prog.globalNamed n = some g) (ht : (Tryd.prog.globals[g]?).map (·.type) = some t) (hu : Tryd.prog.underlying t = some (.array m 9)) (hm : ls.length = m) :
    ∀ o (ho : o < ls.length), W.cell? ⟨g, o, none⟩ = some (.string (bs ls[o])) := by
  obtain ⟨g', t', cs, fuel, p, h1, h2, h3, h4⟩ := h
  obtain rfl := Option.some.inj (hg.symm.trans h1)
  obtain rfl := Option.some.inj (ht.symm.trans h2)
  obtain ⟨xs, k, _, ex, _, hl, hel⟩ := DataW.trod_array hu h4
  have e1 : ls.map (fun s => (.lit (.string s) : DataW Unit)) = xs.map (·.1) := by have := (Prod.mk.inj ex).1; simpa using this
  intro o ho
  obtain ⟨y, hy⟩ := some_of hl (hm ▸ ho)
  have hE := hel o (hm ▸ ho)
  rw [hy, Tryd.cells9] at hE
  obtain ⟨s, e2, e3, _⟩ := DataW.trod_string Tryd.underlying9 hE
  have h5 := at_of e2
  rw [World.var?_cell hg h3 o]
  have h6 : cs[o]? = some (.string s) := by simpa using h5
  rw [h6]
  have h7 : (ls.map (fun s => (.lit (.string s) : DataW Unit)))[o]? = (xs.map (·.1))[o]? := by rw [e1]
  rw [List.getElem?_map, List.getElem?_map, hy, List.getElem?_eq_getElem ho] at h7
  simp only [Option.map_some, Option.some.injEq, e3, DataW.lit.injEq, Lit.string.injEq] at h7
  rw [h7, bs_of]
theorem keys_eq : (Rows.laid_carrel_scan_keywords : DataW Unit) = .agg (keysL.map fun s => .lit (.string s)) := rfl
theorem signs_eq : (Rows.laid_carrel_scan_signs : DataW Unit) = .agg (signsL.map fun s => .lit (.string s)) := rfl
theorem keys_of {W : World} (h : OneIs W "carrel/scan.keywords" Rows.laid_carrel_scan_keywords) : KVars W := by
  rw [keys_eq] at h
  have hk := strs_of (g := 1) h (by kernel_rfl) (by kernel_rfl) Tryd.underlying97 rfl
  exact ⟨World.block_lt_of_cell? W _ (hk 0 (by decide)), hk⟩
theorem vars_of {W : World} (h : OneIs W "carrel/scan.keywords" Rows.laid_carrel_scan_keywords) (hs : OneIs W "carrel/scan.signs" Rows.laid_carrel_scan_signs) : Vars W := by
  rw [signs_eq] at hs
  have hk := strs_of (g := 0) hs (by kernel_rfl) (by kernel_rfl) Tryd.underlying91 rfl
  have h1 := (keys_of h).1
  have h2 := World.block_lt_of_cell? W _ (hk 0 (by decide))
  exact ⟨keys_of h, (by simp at h1 h2 ⊢; omega), hk⟩
/-- The tables that a law lists. -/
def laid2 : List (String × DataW Unit) := Rows.treeExprsRow.laid
theorem vars_laid {W : World} (h : laidMetH Tryd.prog laid2 W) : Vars W := by
  rw [MakeChecks.laidMetH_plain _ _ _ (by kernel_rfl)] at h
  obtain ⟨ps, hl, _⟩ := h
  exact vars_of (laid_each hl ("carrel/scan.keywords", Rows.laid_carrel_scan_keywords) (by simp [laid2, Rows.treeExprsRow])) (laid_each hl ("carrel/scan.signs", Rows.laid_carrel_scan_signs) (by simp [laid2, Rows.treeExprsRow]))
/-- A contract at the worlds that a row speaks of, by its listed variables and by the shape of all others. -/
theorem returns_laid {C : Checked} {H : Type} {enc : TypeId × Value → H} {os : Os} {f : FuncId} {fn : Func} {s : ChangeSpec} {X : World → Array Value → Prop} (hX : ∀ (w w' : World) (args : Array Value), w.heap = w'.heap → X w args → X w' args)
    (own : ownKnob C.prog.godebug = none) (started : os.Started) (noInit : C.prog.inits.idxOf? f = none) (hfn : C.prog.funcs[f]? = some fn)
    (witness : ∃ (w : World) (tape : Tape) (i : Input), w.os = os ∧ (w.forCall tape i).Shaped C.prog ∧ i.vars = [] ∧ Input.okWide C.prog (w.forCall tape i) .any w.heap.size f i ∧
      ((s.pre enc C.prog fn [] false (w.forCall tape i).memory i.args ∧ X (w.forCall tape i).memory i.args) ∧ sizedMet enc C.prog fn (OpenSpec.ofChange s) false (w.forCall tape i).memory i.args) ∧ ({} : Assume).holds C.prog (lone (Frame.enter C.prog f i.args .normal) [] (w.forCall tape i)))
    (K : ∀ (W : World) (base : Nat) (args : Array Value) (ds gs : List (DataW H)) (before : List MemPlace), W.ShapedOpen C.prog → X W args →
      (∀ (j : Nat) t v, fn.params[j]? = some t → args[j]? = some v → Value.okWide C.prog W .any base t v) → DataW.Whole enc C.prog fn.params.toList s.vars false W args.toList ds gs before →
      Calls C.prog f args W fun e W' => ∃ v, e = .returned v ∧ s.post enc C.prog fn false true false false W args v W') :
    ReturnsInHanded {} C os f .any (fun w args => (s.pre enc C.prog fn [] false w args ∧ X w args) ∧ sizedMet enc C.prog fn (OpenSpec.ofChange s) false w args) (s.post enc C.prog fn false true false false) := by
  refine returnsInHanded_of_calls own started noInit witness fun w tape i _ hS _ ok pre _ => ?_
  obtain ⟨_, _, _, fn', h', _, _, _, _, hv⟩ := ok
  obtain rfl : fn' = fn := Option.some.inj (h'.symm.trans hfn)
  obtain ⟨⟨⟨ds, gs, before, hw, _⟩, hx⟩, _⟩ := pre
  refine (K (w.forCall tape i) w.heap.size i.args ds gs before hS (hX _ _ _ (by rfl) hx) hv (DataW.Whole.of_heap (w' := w.forCall tape i) (by rfl) hw)).mono fun e W' ⟨v, he, hp⟩ => ?_
  subst he
  exact ChangeSpec.post_blind hp
theorem ownK : ownKnob Tryd.prog.godebug = none := by kernel_rfl
theorem laidOutB8 : laidOutB Tryd.prog = true := by kernel_rfl
end Go.Proofs.YtejcjhoojpoamaaDoor

namespace Go.Proofs.YtejcjhoojpoamaaDoor
open Go.ChangeShapes Go.WideShapes Go.ChangeAt Go.RowKit
open Go.ChangeMaps (open_string shut_string)
set_option linter.unusedVariables false

namespace treeExprs
set_option maxRecDepth 100000 in
theorem lifted (os : Os) (started : os.Started) (H : Type) (enc : TypeId × Value → H) :
    ReturnsInHanded {} Tryd.checked os 3 .any (fun w args => (Rows.treeExprsSpec.pre enc Tryd.prog Tryd.f3 [] false w args ∧ laidMetH Tryd.prog laid2 w) ∧ sizedMet enc Tryd.prog Tryd.f3 (OpenSpec.ofChange Rows.treeExprsSpec) false w args)
      (Rows.treeExprsSpec.post enc Tryd.prog Tryd.f3 false true false false) := by
  refine returns_laid (C := Tryd.checked) (X := fun w _ => laidMetH Tryd.prog laid2 w) (fun _ _ _ hh h => h.of_heap hh) ownK started (by kernel_rfl) Tryd.func3
    (ChangeSpec.witness_shaped (enc := enc) (C := Tryd.checked) (os := os) (X := fun w _ => laidMetH Tryd.prog laid2 w) false (World.laidAll Tryd.prog os laid2) #[.string ⟨#[]⟩] 8 (World.laidAll_os _ _ _)
      (World.shaped_of_ZipB (by kernel_rfl) (by kernel_rfl)) (by kernel_rfl) (by kernel_rfl) (by kernel_rfl)
      (by rw [MakeChecks.laidMetH_plain _ _ _ (by kernel_rfl)]; exact laidMet_laidAll _ (by kernel_rfl) (by kernel_rfl))) ?_
  intro W base args ds gs before hS hL hval0 hW
  have V := vars_laid hL
  clear hS hL
  have hval : ∀ (j : Nat) t v, Tryd.f3.params[j]? = some t → args[j]? = some v → Value.okWide Tryd.prog W .any base t v := hval0
  have hW' := hW
  obtain ⟨p, q, hA0, hV, rfl, hfz, hnd⟩ := hW
  have hA : DataW.TrodAll enc Tryd.prog W 0 (fun _ => true) true Tryd.f3.params.toList args.toList ds p := hA0
  rw [Tryd.params3] at hA hval
  obtain ⟨v0, vs0, d0, ds0, p0, q0, hargs, rfl, rfl, h0, r0⟩ := trodAll_cons hA
  obtain ⟨rfl, rfl, rfl⟩ := trodAll_nil r0
  obtain rfl : args = #[v0] := by cases args; simp_all
  obtain ⟨rfl, rfl⟩ := trodVars_none hV
  obtain ⟨s0, rfl, rfl, rfl, w0⟩ := open_string Tryd.underlying9 (hval 0 9 v0 rfl rfl) h0
  clear hA0 hval0
  refine (exprs_any s0 W V).mono fun e W' ⟨he, bel⟩ => ?_
  subst he
  exact ⟨_, rfl, _, _, _, [], _, [], hW', trodAll_mk1 (shut_bool Tryd.underlying4 _), (trodAll_cons_mk (shut_string Tryd.underlying9 w0) trodAll_mk0), rfl, bel.frame _, fun h => by cases h⟩

theorem over : Rows.TreeExprsSaid :=
  OpenClaim.holds_of_wide 3 Tryd.f3 rfl rfl rfl rfl rfl rfl rfl ⟨rfl, rfl, rfl, rfl, rfl⟩ rfl rfl rfl rfl rfl (by kernel_rfl) Tryd.func3 (by kernel_rfl)
    (of_decide_eq_true (by kernel_rfl)) (by unfold Func.isWrapper; first | (rw [if_pos (by decide +kernel)]; kernel_rfl) | (rw [if_neg (by decide +kernel)]; exact ⟨rfl, rfl⟩))
    (fun os started H enc _ => lifted os started H enc)
end treeExprs
/-- The given card. -/
theorem treeExprs_holds : Rows.TreeExprsCardSaid :=
  Claim7.holds_tied_plain_at .later [] _ _ _ _ treeExprs.over (fun _ h => by cases h) (by kernel_rfl) (fun _ h => by cases h) treeExprs_row_tie rfl ⟨rfl, rfl⟩ (by kernel_rfl) rfl
    (fun f fn hf hfn => by
      obtain rfl : f = 3 := Option.some.inj ((show Tryd.prog.funcNamed "carrel/carrellaw09.TreeExprs" = some 3 by kernel_rfl).symm.trans hf) |>.symm
      obtain rfl : fn = Tryd.f3 := (Option.some.inj (Tryd.func3.symm.trans hfn)).symm
      exact ⟨by kernel_rfl, fun j t ht => by
        rw [Tryd.params3] at ht
        have hm : t ∈ [9] := by simpa using Array.mem_of_getElem? ht
        have hall : ([9].all fun u => !Tryd.prog.wantsStandIn u) = true := by kernel_rfl
        exact (show Tryd.prog.wantsStandIn t = false by simpa using List.all_eq_true.1 hall t hm)⟩)
    (by kernel_rfl)
#print axioms treeExprs_holds
end Go.Proofs.YtejcjhoojpoamaaDoor
