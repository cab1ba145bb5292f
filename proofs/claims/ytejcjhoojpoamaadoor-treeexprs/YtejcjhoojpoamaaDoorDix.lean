/-
  Layer 9, the document's: indexes.
-/
import Derived.Test.YtejcjhoojpoamaaDoorDex
import Derived.Test.YtejcjhoojpoamaaDoorIdx
namespace Go.Proofs.YtejcjhoojpoamaaDoor
set_option linter.unusedVariables false
set_option linter.unusedSimpArgs false
open Go.ChangeShapes Go.WideShapes Go.ChangeAt Go.RowKit
attribute [local go_sem ↓] loadTk_seal storeTk_seal loadKeys_seal loadSigns_seal
attribute [local go_sem] loadTk_run storeTk_run rowAt_at rowAt_old rowAt_drew rowAt_drewN roomTk_new roomAt_old roomAt_drew roomAt_drewN putTk_new Tk.fold putRow_past rowTk_put size_put putRow_drew putRow_drewN alloc_drewN setCell_drewN Tk.at0 Tk.at1 Tk.at2 Tk.at3 Tk.size Tk.set0 Tk.set1 Tk.set2 Tk.set3 Tk.ne rowAt_set rowAt_far roomAt_far
attribute [local go_sem ↓] loadNd_seal storeNd_seal
attribute [local go_sem] loadNd_run storeNd_run roomNd_new putNd_new Nc.fold rowNd_put Nc.at0 Nc.at1 Nc.at2 Nc.at3 Nc.at4 Nc.at5 Nc.size Nc.set0 Nc.set1 Nc.set2 Nc.set3 Nc.set4 Nc.set5 Nc.ne
attribute [local go_sem] fieldTk0 fieldTk3
attribute [local go_sem ↓] bslNd_seal
attribute [local go_sem] bslNd1_run bslNd2_run

/-- What a function of the document's leaves that makes a tree of one that is handed in. -/
def PostDP (w : World) (b g cap : Nat) (L : List Tok) (i o : Nat) (P : Nat → Prop) (r : Rs Nd) (e : Ending) (w' : World) : Prop := match r with
  | .ok n t => ∃ c i', e = .returned (.agg (Nc.cells c)) ∧ t = L.drop i' ∧ i < i' ∧ Ds w w' b g cap L i' (o : Int) 0 0 ∧ NdAt w' P c n
  | .bad p er => ∃ c i' o', e = .returned (.agg (Nc.cells c)) ∧ er ≠ 0 ∧ Ds w w' b g cap L i' o' er (p : Int)
theorem idxN_snoc (p : Nat) (a : Nd) (l : List Nd) (x : Nd) : idxN p a (l ++ [x]) = .mk 33 [] 0 false [idxN p a l, x] p := by unfold idxN; rw [List.foldl_append]; rfl
/-- The loop's state: more to come; no more; given up. -/
def Ixm (w X : World) (b g cap : Nat) (L : List Tok) (i o : Nat) (P : Nat → Prop) (p : Nat) (n1 : Nd) (Rr : Rs Nd) (f j : Nat) : Prop := ∃ acc c f1, f1 ≤ f + 1 ∧ run f1 (.row [44] .expr acc) (o + 1) (L.drop j) = Rr ∧ (L.length - j) * 40 + 21 ≤ f1 ∧ i < j ∧ rowAt X w.heap.size = some (Nc.cells c) ∧ roomAt X w.heap.size 6 = true ∧ roomAt X (w.heap.size + 1) 6 = true ∧ Ds w X b g cap L j ((o : Int) + 1) 0 0 ∧ NdAt X (fun x => P x ∧ x ≠ w.heap.size ∧ x ≠ w.heap.size + 1) c (idxN p n1 acc)
def Ixn (w X : World) (b g cap : Nat) (L : List Tok) (i o : Nat) (P : Nat → Prop) (p : Nat) (n1 : Nd) (Rr : Rs Nd) (j : Nat) : Prop := ∃ acc c, Rr = .ok (lst acc) (L.drop j) ∧ i < j ∧ rowAt X w.heap.size = some (Nc.cells c) ∧ roomAt X w.heap.size 6 = true ∧ roomAt X (w.heap.size + 1) 6 = true ∧ Ds w X b g cap L j ((o : Int) + 1) 0 0 ∧ NdAt X (fun x => P x ∧ x ≠ w.heap.size ∧ x ≠ w.heap.size + 1) c (idxN p n1 acc)
def Ixd (w X : World) (b g cap : Nat) (L : List Tok) (Rr : Rs Nd) : Prop := ∃ c i' o' p er, er ≠ 0 ∧ Rr = .bad p er ∧ rowAt X w.heap.size = some (Nc.cells c) ∧ roomAt X w.heap.size 6 = true ∧ roomAt X (w.heap.size + 1) 6 = true ∧ Ds w X b g cap L i' o' er (p : Int)
theorem ixkeep {w2 : World} {q x : Nat} {X : Array Value} {o1 o2 : Obj} (h1 : x ≠ q) (h2 : x < w2.heap.size) : (((putRow w2 q X).alloc o1).alloc o2).heap[x]? = w2.heap[x]? :=
  (((Below.refl _ _).alloc (Nat.le_refl _) _).block x (by simp [size_put]; omega)).trans ((((Below.refl _ _).alloc (Nat.le_refl _) _).block x (by simp [size_put]; omega)).trans (put_far _ _ _ _ h1))
set_option maxHeartbeats 4000000 in
set_option maxRecDepth 20000 in
theorem dindex_any (f : Nat) (hE : ∀ f', f' ≤ f → Pd 19 .expr f') (w : World) (b g cap : Nat) (L : List Tok) (i o : Nat) (h : DAt w b g cap L i (o : Int) 0 0) (ho : o ≤ 24) (hok : ∀ x ∈ L, okT x) (hk : (hd (L.drop i)).k ≠ 0) (hf : (L.length - i) * 40 ≤ f + 18) (c0 : Nc) (P : Nat → Prop) (hP1 : ∀ x, P x → x ≠ b) (hP2 : ∀ x, w.heap.size ≤ x → P x) (n1 : Nd) (hc : NdAt w P c0 n1) :
    Calls Tryd.prog 131 #[.pointer (some ⟨b, 0, none⟩), .agg c0.cells, .int .i64 ((hd (L.drop i)).p : Int)] w (PostDP w b g cap L i o P (idxR (f + 1) o n1 (L.drop i))) := by
  have bl := h.bl
  have gl := h.gl
  have hil := h.il
  have hll := h.ll
  have H : Hid (DAt w b g cap L i (o : Int) 0 0) := h
  have HC : Hid (NdAt w P c0 n1) := hc
  have HE : Hid (∀ f', f' ≤ f → Pd 19 .expr f') := hE
  have HOK : Hid (∀ x ∈ L, okT x) := hok
  have nb3 : w.heap.size + 1 ≠ b := by omega
  have nb4 : w.heap.size ≠ b := by omega
  have hn : i + 1 < L.length := h.last i h.il (by rw [← h.hd]; exact hk)
  unfold idxR beginR
  obtain ⟨tk, htk⟩ : ∃ tk, tk = hd (L.drop i) := ⟨_, rfl⟩
  by_cases ho24 : o = 24
  · subst ho24
    rw [if_pos rfl, Rs.bind_bad]
    have OP : Hid (∀ X, DAt X b g cap L i 24 0 0 → Calls Tryd.prog 98 #[.pointer (some ⟨b, 0, none⟩), .int .i64 1] X _) := fun X hX => opens_f X b g cap L i hX
    have MD : Hid (∀ X er p, er ≠ 0 → DAt X b g cap L i 24 er p → Calls Tryd.prog 118 #[.pointer (some ⟨b, 0, none⟩), .string (bs [93])] X _) := fun X er p he hX => mark_d X b g cap L i 24 er p hX [93] he (sg_dead he)
    clear h hc hE hok hk
    rw [← htk] at OP ⊢
    clear htk
    go_enter Tryd.func131, Tryd.ntmps131
    go_wp2_with (go_at_call 98; refine (OP.out _ ((H.out.alloc _).alloc _)).mono ?_; rintro e w1 ⟨rfl, s1⟩; have hs1 := s1.size; simp at hs1; have A1 : Hid (Ds w w1 b g cap L i 24 91 (tk.p : Int)) := (((Ds.refl H.out).alloc _).alloc _).next s1; have c31 := s1.rd.c3; have l1 := s1.rd.bl; have r1 : rowAt w1 w.heap.size = some c0.cells := (s1.row (by simp; omega) (by omega)).trans ((rowAt_old _ _ _ (by simp)).trans (rowAt_at _ _ _ _ _ rfl)); have m1 : roomAt w1 (w.heap.size + 1) 6 = true := (s1.room (by simp) (by omega) 6).trans (roomNd_new _ _ _ _ (by simp)))
    go_loopg [7] 1 (fun gf s7 X => s7 = .bool false ∧ X = w1)
    case atStart => exact ⟨rfl, rfl⟩
    case round =>
      obtain ⟨rfl, hX⟩ := hrel
      obtain rfl := hX
      go_wp2_with (go_at_call 118; refine (MD.out _ _ _ (by decide) A1.out.rd).mono ?_; rintro e w4 ⟨rfl, s4⟩; have hs4 := s4.size; have r4 : rowAt w4 w.heap.size = some c0.cells := (s4.row (by omega) (by omega)).trans r1; have m4 : roomAt w4 (w.heap.size + 1) 6 = true := (s4.room (by omega) (by omega) 6).trans m1; have A4 : Hid (Ds w w4 b g cap L i 24 91 (tk.p : Int)) := A1.out.next s4; have c24 := A4.out.rd.c2; have f24 := A4.out.rd.fz 2; have l4 := A4.out.rd.bl)
      exact ret_cell1 rfl rfl (loadNd_row (rowNd_put _ _ _ ((roomAt_far _ _ _ _ _ nb3).trans m4))) rfl ⟨_, i, _, rfl, by decide, (A4.out.setO _).old bl gl _ (by omega) _⟩
  · rw [if_neg ho24, Rs.bind_ok, List.tail_drop]
    have OP : Hid (∀ X, DAt X b g cap L i (o : Int) 0 0 → Calls Tryd.prog 98 #[.pointer (some ⟨b, 0, none⟩), .int .i64 1] X _) := fun X hX => opens_t X b g cap L i o hX (by omega) hk
    clear h hc hE hok hk
    rw [← htk] at OP ⊢
    clear htk
    obtain ⟨Rr, hRr⟩ : ∃ Rr, Rr = run (f + 1) (.row [44] .expr []) (o + 1) (L.drop (i + 1)) := ⟨_, rfl⟩
    rw [← hRr]
    obtain ⟨R, hR⟩ : ∃ R, R = Rr.bind fun y s => (mustR [93] s).bind fun _ u => .ok (idxN tk.p n1 y.kids) u := ⟨_, rfl⟩
    rw [← hR]
    have HR : Hid (R = Rr.bind fun y s => (mustR [93] s).bind fun _ u => .ok (idxN tk.p n1 y.kids) u) := hR
    have HRr : Hid (run (f + 1) (.row [44] .expr []) (o + 1) (L.drop (i + 1)) = Rr) := hRr.symm
    clear hR hRr
    go_enter Tryd.func131, Tryd.ntmps131
    go_wp2_with (go_at_call 98; refine (OP.out _ ((H.out.alloc _).alloc _)).mono ?_; rintro e w1 ⟨rfl, s1⟩; have c31 := s1.rd.c3; have l1 := s1.rd.bl)
    have hs1 := s1.size
    simp at hs1
    have S1 : Ds w w1 b g cap L (i + 1) ((o : Int) + 1) 0 0 := (((Ds.refl H.out).alloc _).alloc _).next s1
    have LP : Ixm w w1 b g cap L i o P tk.p n1 Rr f (i + 1) := ⟨[], c0, f + 1, Nat.le_refl _, HRr.out, by omega, by omega, (s1.row (by simp; omega) (by omega)).trans ((rowAt_old _ _ _ (by simp)).trans (rowAt_at _ _ _ _ _ rfl)), (s1.room (by simp; omega) (by omega) 6).trans ((roomAt_old _ _ _ _ (by simp)).trans (roomNd_new _ _ _ _ rfl)), (s1.room (by simp) (by omega) 6).trans (roomNd_new _ _ _ _ (by simp)), S1, HC.out.keep (fun x hx hl => ⟨hx, by omega, by omega⟩) S1.gb.size (fun x hx hl => S1.gb.block x hl (fun e => by injection e with e; exact hP1 x hx e))⟩
    clear s1 S1 HRr OP c31 l1
    go_loopg [7] (L.length + 1) (fun gf s7 X => ∃ j, (s7 = .bool true ∧ Ixm w X b g cap L i o P tk.p n1 Rr f j ∧ L.length + 1 ≤ j + gf) ∨ (s7 = .bool false ∧ (Ixn w X b g cap L i o P tk.p n1 Rr j ∨ Ixd w X b g cap L Rr)))
    case atStart => exact ⟨i + 1, .inl ⟨rfl, LP, by omega⟩⟩
    case round =>
      obtain ⟨j, ⟨rfl, ⟨acc, c, f1, hf1, hrun, hfu, hij, r0, k0, m0, SJ, nd⟩, hg⟩ | ⟨rfl, ⟨acc, c, hRo, hij, r0, k0, m0, SJ, nd⟩ | ⟨c, i', o', p, er, he, hRb, r0, k0, m0, SJ⟩⟩⟩ := hrel
      · have hjl := SJ.rd.il
        obtain ⟨g', rfl⟩ : ∃ g', gk = g' + 1 := ⟨gk - 1, by omega⟩
        obtain ⟨f2, rfl⟩ : ∃ f2, f1 = f2 + 1 := ⟨f1 - 1, by omega⟩
        have hsz := SJ.size
        have hql := row_lt r0
        have hml : w.heap.size + 1 < wr.heap.size := by
          have := m0; unfold roomAt at this; split at this
          · rename_i hb; exact (Array.getElem?_eq_some_iff.1 hb).1
          · cases this
        have A0 : Hid (Ds w wr b g cap L j ((o : Int) + 1) 0 0 ∧ NdAt wr (fun x => P x ∧ x ≠ w.heap.size ∧ x ≠ w.heap.size + 1) c (idxN tk.p n1 acc)) := ⟨SJ, nd⟩
        rw [run] at hrun
        have EX : Hid (∀ X, DAt X b g cap L j ((o : Int) + 1) 0 0 → Calls Tryd.prog 19 #[.pointer (some ⟨b, 0, none⟩)] X (PostD X b g cap L j (o + 1) (run f2 .expr (o + 1) (L.drop j)))) := fun X hX => HE.out f2 (by omega) X b g cap L j (o + 1) (by simpa using hX) (by omega) HOK.out (by show (L.length - j) * 40 + 20 ≤ f2; omega)
        clear SJ nd LP
        cases hr2 : run f2 .expr (o + 1) (L.drop j) with
        | bad pe er =>
          rw [hr2] at EX hrun
          rw [Rs.bind_bad] at hrun
          have HB : Hid (Rr = .bad pe er) := hrun.symm
          clear hr2 hrun
          have SI : Hid (∀ X i2 o2, DAt X b g cap L i2 o2 er (pe : Int) → er ≠ 0 → Calls Tryd.prog 76 #[.pointer (some ⟨b, 0, none⟩), .string (bs [44])] X fun e w' => e = .returned (.bool false) ∧ Below X.heap.size X w') := fun X i2 o2 hX he => by have := sign_d X b g cap L i2 o2 er pe hX [44]; rwa [sg_dead he] at this
          go_wp2_with (first
            | (go_at_call 19; refine (EX.out _ A0.out.1.rd).mono ?_; rintro e w2 ⟨c2, i2, o2, rfl, he2, s2⟩; have hs2 := s2.size; have hl2 : w.heap.size < w2.heap.size := (by omega); have r2 : rowAt w2 w.heap.size = some c.cells := (s2.row (by omega) (by omega)).trans r0; have k2 : roomAt w2 w.heap.size 6 = true := (s2.room (by omega) (by omega) 6).trans k0; have m2 : roomAt w2 (w.heap.size + 1) 6 = true := (s2.room (by omega) (by omega) 6).trans m0; have hw2 : w.heap.size ≠ w2.heap.size := (by omega); have hl22 : w.heap.size < w2.heap.size + 1 := (by omega); have hw22 : w.heap.size ≠ w2.heap.size + 1 := (by omega); have P2 : Hid (Ds w (((putRow w2 w.heap.size (⟨33, ⟨#[]⟩, 0, false, some ⟨w2.heap.size + 1, 0, none⟩, 2, 2, (tk.p : Int)⟩ : Nc).cells).alloc (.cells c2.cells 25)).alloc (.cells (c.cells ++ c2.cells) 25)) b g cap L i2 o2 er (pe : Int)) := ((A0.out.1.next s2).old bl gl _ (Nat.le_refl _) _).alloc _ |>.alloc _; have K2 : roomAt (((putRow w2 w.heap.size (⟨33, ⟨#[]⟩, 0, false, some ⟨w2.heap.size + 1, 0, none⟩, 2, 2, (tk.p : Int)⟩ : Nc).cells).alloc (.cells c2.cells 25)).alloc (.cells (c.cells ++ c2.cells) 25)) w.heap.size 6 = true := (roomAt_old _ _ _ _ (by simp [size_put]; omega)).trans ((roomAt_old _ _ _ _ (by simp [size_put]; omega)).trans (room_keep k2 _ rfl)); have M2 : roomAt (((putRow w2 w.heap.size (⟨33, ⟨#[]⟩, 0, false, some ⟨w2.heap.size + 1, 0, none⟩, 2, 2, (tk.p : Int)⟩ : Nc).cells).alloc (.cells c2.cells 25)).alloc (.cells (c.cells ++ c2.cells) 25)) (w.heap.size + 1) 6 = true := (roomAt_old _ _ _ _ (by simp [size_put]; omega)).trans ((roomAt_old _ _ _ _ (by simp [size_put]; omega)).trans ((room_far _ _ _ _ _ (by omega)).trans m2)); have R2 : rowAt (((putRow w2 w.heap.size (⟨33, ⟨#[]⟩, 0, false, some ⟨w2.heap.size + 1, 0, none⟩, 2, 2, (tk.p : Int)⟩ : Nc).cells).alloc (.cells c2.cells 25)).alloc (.cells (c.cells ++ c2.cells) 25)) w.heap.size = some (⟨33, ⟨#[]⟩, 0, false, some ⟨w2.heap.size + 1, 0, none⟩, 2, 2, (tk.p : Int)⟩ : Nc).cells := (rowAt_old _ _ _ (by simp [size_put]; omega)).trans ((rowAt_old _ _ _ (by simp [size_put]; omega)).trans (rowNd_put _ _ _ k2)))
            | (go_at_call 76; refine (SI.out _ _ _ P2.out.rd he2).mono ?_; rintro e w3 ⟨rfl, hb3⟩; have hs3 := hb3.size; simp [size_put] at hs3; have K3 : roomAt w3 w.heap.size 6 = true := (roomAt_below hb3 _ _ (by simp [size_put]; omega)).trans K2; have M3 : roomAt w3 (w.heap.size + 1) 6 = true := (roomAt_below hb3 _ _ (by simp [size_put]; omega)).trans M2; have R3 : rowAt w3 w.heap.size = _ := (rowAt_below hb3 _ (by simp [size_put]; omega)).trans R2)
            | (go_at_call 129; refine (when_f _ _).mono ?_; rintro e w' ⟨rfl, hw⟩; obtain rfl := hw.symm; clear hw))
          have LN : Ixd w w3 b g cap L Rr := ⟨_, i2, o2, pe, er, he2, HB.out, R3, K3, M3, P2.out.below hb3⟩
          go_roundg g'
          case measure => omega
          case rel => exact ⟨0, .inr ⟨rfl, .inr LN⟩⟩
        | ok y s =>
          rw [hr2] at EX hrun
          rw [Rs.bind_ok] at hrun
          clear hr2
          by_cases hcm : wd s = [44]
          · rw [if_pos hcm] at hrun
            have HRN : Hid (run f2 (.row [44] .expr (acc ++ [y])) (o + 1) s.tail = Rr) := hrun
            have SI : Hid (∀ X i2, s = L.drop i2 → DAt X b g cap L i2 ((o + 1 : Nat) : Int) 0 0 → Calls Tryd.prog 76 #[.pointer (some ⟨b, 0, none⟩), .string (bs [44])] X fun e w' => e = .returned (.bool true) ∧ Below X.heap.size X w') := fun X i2 e2 hX => by
              have := sign_d X b g cap L i2 _ 0 0 hX [44]
              rwa [sg_wd (hX.okt HOK.out) (by decide), ← e2, show decide (wd s = [44]) = true by simpa using hcm] at this
            have HKK : Hid (∀ i2, s = L.drop i2 → (hd (L.drop i2)).k ≠ 0) := fun i2 e2 => by rw [← e2]; exact wd_kind (by rw [hcm]; decide)
            clear hcm hrun
            go_wp2_with (first
              | (go_at_call 19; refine (EX.out _ A0.out.1.rd).mono ?_; rintro e w2 ⟨c2, i2, rfl, ht2, hi2, s2, nd2⟩; have hs2 := s2.size; have hl2 : w.heap.size < w2.heap.size := (by omega); have r2 : rowAt w2 w.heap.size = some c.cells := (s2.row (by omega) (by omega)).trans r0; have k2 : roomAt w2 w.heap.size 6 = true := (s2.room (by omega) (by omega) 6).trans k0; have m2 : roomAt w2 (w.heap.size + 1) 6 = true := (s2.room (by omega) (by omega) 6).trans m0; have hw2 : w.heap.size ≠ w2.heap.size := (by omega); have hl22 : w.heap.size < w2.heap.size + 1 := (by omega); have hw22 : w.heap.size ≠ w2.heap.size + 1 := (by omega); have P2 : Hid (Ds w (((putRow w2 w.heap.size (⟨33, ⟨#[]⟩, 0, false, some ⟨w2.heap.size + 1, 0, none⟩, 2, 2, (tk.p : Int)⟩ : Nc).cells).alloc (.cells c2.cells 25)).alloc (.cells (c.cells ++ c2.cells) 25)) b g cap L i2 ((o + 1 : Nat) : Int) 0 0) := ((A0.out.1.next s2).old bl gl _ (Nat.le_refl _) _).alloc _ |>.alloc _; have K2 : roomAt (((putRow w2 w.heap.size (⟨33, ⟨#[]⟩, 0, false, some ⟨w2.heap.size + 1, 0, none⟩, 2, 2, (tk.p : Int)⟩ : Nc).cells).alloc (.cells c2.cells 25)).alloc (.cells (c.cells ++ c2.cells) 25)) w.heap.size 6 = true := (roomAt_old _ _ _ _ (by simp [size_put]; omega)).trans ((roomAt_old _ _ _ _ (by simp [size_put]; omega)).trans (room_keep k2 _ rfl)); have M2 : roomAt (((putRow w2 w.heap.size (⟨33, ⟨#[]⟩, 0, false, some ⟨w2.heap.size + 1, 0, none⟩, 2, 2, (tk.p : Int)⟩ : Nc).cells).alloc (.cells c2.cells 25)).alloc (.cells (c.cells ++ c2.cells) 25)) (w.heap.size + 1) 6 = true := (roomAt_old _ _ _ _ (by simp [size_put]; omega)).trans ((roomAt_old _ _ _ _ (by simp [size_put]; omega)).trans ((room_far _ _ _ _ _ (by omega)).trans m2)); have R2 : rowAt (((putRow w2 w.heap.size (⟨33, ⟨#[]⟩, 0, false, some ⟨w2.heap.size + 1, 0, none⟩, 2, 2, (tk.p : Int)⟩ : Nc).cells).alloc (.cells c2.cells 25)).alloc (.cells (c.cells ++ c2.cells) 25)) w.heap.size = some (⟨33, ⟨#[]⟩, 0, false, some ⟨w2.heap.size + 1, 0, none⟩, 2, 2, (tk.p : Int)⟩ : Nc).cells := (rowAt_old _ _ _ (by simp [size_put]; omega)).trans ((rowAt_old _ _ _ (by simp [size_put]; omega)).trans (rowNd_put _ _ _ k2)); have N2 : Hid (NdAt (((putRow w2 w.heap.size (⟨33, ⟨#[]⟩, 0, false, some ⟨w2.heap.size + 1, 0, none⟩, 2, 2, (tk.p : Int)⟩ : Nc).cells).alloc (.cells c2.cells 25)).alloc (.cells (c.cells ++ c2.cells) 25)) (fun x => P x ∧ x ≠ w.heap.size ∧ x ≠ w.heap.size + 1) (⟨33, ⟨#[]⟩, 0, false, some ⟨w2.heap.size + 1, 0, none⟩, 2, 2, (tk.p : Int)⟩ : Nc) (idxN tk.p n1 (acc ++ [y]))) := (by rw [idxN_snoc]; exact two_made 33 [] tk.p ⟨hP2 _ (by omega), by omega, by omega⟩ (heap_new' _ _ (by simp [size_put])) (A0.out.2.keep (fun x hx _ => hx) (by simp [size_put]; omega) (fun x hx hl => ixkeep hx.2.1 (by omega) |>.trans (s2.gb.block x hl (fun e => by injection e with e; exact hP1 x hx.1 e)))) (nd2.keep (fun x hx _ => ⟨hP2 _ (by omega), by omega, by omega⟩) (by simp [size_put]; omega) (fun x hx hl => ixkeep (by omega) (by omega)))); clear nd2)
              | (go_at_call 76; refine (SI.out _ i2 ht2 P2.out.rd).mono ?_; rintro e w3 ⟨rfl, hb3⟩; have hs3 := hb3.size; simp [size_put] at hs3; have K3 : roomAt w3 w.heap.size 6 = true := (roomAt_below hb3 _ _ (by simp [size_put]; omega)).trans K2; have M3 : roomAt w3 (w.heap.size + 1) 6 = true := (roomAt_below hb3 _ _ (by simp [size_put]; omega)).trans M2; have R3 : rowAt w3 w.heap.size = _ := (rowAt_below hb3 _ (by simp [size_put]; omega)).trans R2)
              | (go_at_call 129; refine (when_t _ b g cap L i2 _ _ _ (P2.out.below hb3).rd (HKK.out i2 ht2)).mono ?_; rintro e w4 ⟨rfl, s4⟩; have hs4 := s4.size))
            have LN : Ixm w w4 b g cap L i o P tk.p n1 Rr f (i2 + 1) := by
              have i2l := s4.rd.il
              refine ⟨acc ++ [y], _, f2, by omega, by rw [← List.tail_drop, ← ht2]; exact HRN.out, by omega, by omega, (s4.row (by omega) (by omega)).trans R3, (s4.room (by omega) (by omega) 6).trans K3, (s4.room (by omega) (by omega) 6).trans M3, ?_, ?_⟩
              · have := (P2.out.below hb3).next s4
                simpa using this
              · exact (N2.out.stepP (b := b) (fun x hx => hP1 x hx.1) (gb_of_below hb3 b)).stepP (b := b) (fun x hx => hP1 x hx.1) s4.gb
            have i2l := s4.rd.il
            go_roundg g'
            case measure => omega
            case rel => exact ⟨i2 + 1, .inl ⟨rfl, LN, by omega⟩⟩
          · rw [if_neg hcm] at hrun
            have HRN : Hid (Rr = .ok (lst (acc ++ [y])) s) := hrun.symm
            have SI : Hid (∀ X i2, s = L.drop i2 → DAt X b g cap L i2 ((o + 1 : Nat) : Int) 0 0 → Calls Tryd.prog 76 #[.pointer (some ⟨b, 0, none⟩), .string (bs [44])] X fun e w' => e = .returned (.bool false) ∧ Below X.heap.size X w') := fun X i2 e2 hX => by
              have := sign_d X b g cap L i2 _ 0 0 hX [44]
              rwa [sg_wd (hX.okt HOK.out) (by decide), ← e2, show decide (wd s = [44]) = false by simpa using hcm] at this
            clear hcm hrun
            go_wp2_with (first
              | (go_at_call 19; refine (EX.out _ A0.out.1.rd).mono ?_; rintro e w2 ⟨c2, i2, rfl, ht2, hi2, s2, nd2⟩; have hs2 := s2.size; have hl2 : w.heap.size < w2.heap.size := (by omega); have r2 : rowAt w2 w.heap.size = some c.cells := (s2.row (by omega) (by omega)).trans r0; have k2 : roomAt w2 w.heap.size 6 = true := (s2.room (by omega) (by omega) 6).trans k0; have m2 : roomAt w2 (w.heap.size + 1) 6 = true := (s2.room (by omega) (by omega) 6).trans m0; have hw2 : w.heap.size ≠ w2.heap.size := (by omega); have hl22 : w.heap.size < w2.heap.size + 1 := (by omega); have hw22 : w.heap.size ≠ w2.heap.size + 1 := (by omega); have P2 : Hid (Ds w (((putRow w2 w.heap.size (⟨33, ⟨#[]⟩, 0, false, some ⟨w2.heap.size + 1, 0, none⟩, 2, 2, (tk.p : Int)⟩ : Nc).cells).alloc (.cells c2.cells 25)).alloc (.cells (c.cells ++ c2.cells) 25)) b g cap L i2 ((o + 1 : Nat) : Int) 0 0) := ((A0.out.1.next s2).old bl gl _ (Nat.le_refl _) _).alloc _ |>.alloc _; have K2 : roomAt (((putRow w2 w.heap.size (⟨33, ⟨#[]⟩, 0, false, some ⟨w2.heap.size + 1, 0, none⟩, 2, 2, (tk.p : Int)⟩ : Nc).cells).alloc (.cells c2.cells 25)).alloc (.cells (c.cells ++ c2.cells) 25)) w.heap.size 6 = true := (roomAt_old _ _ _ _ (by simp [size_put]; omega)).trans ((roomAt_old _ _ _ _ (by simp [size_put]; omega)).trans (room_keep k2 _ rfl)); have M2 : roomAt (((putRow w2 w.heap.size (⟨33, ⟨#[]⟩, 0, false, some ⟨w2.heap.size + 1, 0, none⟩, 2, 2, (tk.p : Int)⟩ : Nc).cells).alloc (.cells c2.cells 25)).alloc (.cells (c.cells ++ c2.cells) 25)) (w.heap.size + 1) 6 = true := (roomAt_old _ _ _ _ (by simp [size_put]; omega)).trans ((roomAt_old _ _ _ _ (by simp [size_put]; omega)).trans ((room_far _ _ _ _ _ (by omega)).trans m2)); have R2 : rowAt (((putRow w2 w.heap.size (⟨33, ⟨#[]⟩, 0, false, some ⟨w2.heap.size + 1, 0, none⟩, 2, 2, (tk.p : Int)⟩ : Nc).cells).alloc (.cells c2.cells 25)).alloc (.cells (c.cells ++ c2.cells) 25)) w.heap.size = some (⟨33, ⟨#[]⟩, 0, false, some ⟨w2.heap.size + 1, 0, none⟩, 2, 2, (tk.p : Int)⟩ : Nc).cells := (rowAt_old _ _ _ (by simp [size_put]; omega)).trans ((rowAt_old _ _ _ (by simp [size_put]; omega)).trans (rowNd_put _ _ _ k2)); have N2 : Hid (NdAt (((putRow w2 w.heap.size (⟨33, ⟨#[]⟩, 0, false, some ⟨w2.heap.size + 1, 0, none⟩, 2, 2, (tk.p : Int)⟩ : Nc).cells).alloc (.cells c2.cells 25)).alloc (.cells (c.cells ++ c2.cells) 25)) (fun x => P x ∧ x ≠ w.heap.size ∧ x ≠ w.heap.size + 1) (⟨33, ⟨#[]⟩, 0, false, some ⟨w2.heap.size + 1, 0, none⟩, 2, 2, (tk.p : Int)⟩ : Nc) (idxN tk.p n1 (acc ++ [y]))) := (by rw [idxN_snoc]; exact two_made 33 [] tk.p ⟨hP2 _ (by omega), by omega, by omega⟩ (heap_new' _ _ (by simp [size_put])) (A0.out.2.keep (fun x hx _ => hx) (by simp [size_put]; omega) (fun x hx hl => ixkeep hx.2.1 (by omega) |>.trans (s2.gb.block x hl (fun e => by injection e with e; exact hP1 x hx.1 e)))) (nd2.keep (fun x hx _ => ⟨hP2 _ (by omega), by omega, by omega⟩) (by simp [size_put]; omega) (fun x hx hl => ixkeep (by omega) (by omega)))); clear nd2)
              | (go_at_call 76; refine (SI.out _ i2 ht2 P2.out.rd).mono ?_; rintro e w3 ⟨rfl, hb3⟩; have hs3 := hb3.size; simp [size_put] at hs3; have K3 : roomAt w3 w.heap.size 6 = true := (roomAt_below hb3 _ _ (by simp [size_put]; omega)).trans K2; have M3 : roomAt w3 (w.heap.size + 1) 6 = true := (roomAt_below hb3 _ _ (by simp [size_put]; omega)).trans M2; have R3 : rowAt w3 w.heap.size = _ := (rowAt_below hb3 _ (by simp [size_put]; omega)).trans R2)
              | (go_at_call 129; refine (when_f _ _).mono ?_; rintro e w' ⟨rfl, hw⟩; obtain rfl := hw.symm; clear hw))
            have LN : Ixn w w3 b g cap L i o P tk.p n1 Rr i2 := ⟨acc ++ [y], _, by rw [HRN.out, ht2], by omega, R3, K3, M3, by simpa using P2.out.below hb3, N2.out.stepP (b := b) (fun x hx => hP1 x hx.1) (gb_of_below hb3 b)⟩
            go_roundg g'
            case measure => omega
            case rel => exact ⟨i2, .inr ⟨rfl, .inl LN⟩⟩
      · have hsz := SJ.size
        have hql := row_lt r0
        have hml : w.heap.size + 1 < wr.heap.size := by
          have := m0; unfold roomAt at this; split at this
          · rename_i hb; exact (Array.getElem?_eq_some_iff.1 hb).1
          · cases this
        have hR := HR.out
        rw [hRo, Rs.bind_ok] at hR
        have A0 : Hid (Ds w wr b g cap L j ((o : Int) + 1) 0 0 ∧ NdAt wr (fun x => P x ∧ x ≠ w.heap.size ∧ x ≠ w.heap.size + 1) c (idxN tk.p n1 acc)) := ⟨SJ, nd⟩
        have sw := sg_wd (s := [93]) (SJ.rd.okt HOK.out) (by decide)
        unfold mustR at hR
        by_cases hm1 : wd (L.drop j) = [93]
        · rw [if_pos hm1, Rs.bind_ok, List.tail_drop] at hR
          have MT : Hid (Calls Tryd.prog 118 #[.pointer (some ⟨b, 0, none⟩), .string (bs [93])] wr _) := mark_t wr b g cap L j _ 0 SJ.rd [93] (wd_kind (by rw [hm1]; decide)) (by rw [sw]; simpa using hm1)
          have HRk : Hid (R = .ok (idxN tk.p n1 acc) (L.drop (j + 1))) := hR
          clear hR hm1 sw SJ nd LP hRo
          go_wp2_with (go_at_call 118; refine MT.out.mono ?_; rintro e w4 ⟨rfl, s4⟩; have hs4 := s4.size; have r4 : rowAt w4 w.heap.size = some c.cells := (s4.row (by omega) (by omega)).trans r0; have m4 : roomAt w4 (w.heap.size + 1) 6 = true := (s4.room (by omega) (by omega) 6).trans m0; have A4 : Hid (Ds w w4 b g cap L (j + 1) ((o : Int) + 1) 0 0) := A0.out.1.next s4; have c24 := A4.out.rd.c2; have f24 := A4.out.rd.fz 2; have l4 := A4.out.rd.bl)
          rw [HRk.out]
          refine ret_cell1 rfl rfl (loadNd_row (rowNd_put _ _ _ ((roomAt_far _ _ _ _ _ nb3).trans m4))) rfl ⟨_, j + 1, rfl, rfl, by omega, (A4.out.setO _).old bl gl _ (by omega) _, ?_⟩
          exact A0.out.2.keep (fun x hx _ => hx.1) (by rw [size_put]; simp; omega) (fun x hx hl => (put_far _ _ _ _ hx.2.2).trans ((Below.heap_setCell _ _ _ _ (by show x ≠ b; exact hP1 x hx.1)).trans (s4.gb.block x hl (fun e => by injection e with e; exact hP1 x hx.1 e))))
        · rw [if_neg hm1, Rs.bind_bad] at hR
          have MT : Hid (Calls Tryd.prog 118 #[.pointer (some ⟨b, 0, none⟩), .string (bs [93])] wr _) := mark_f wr b g cap L j _ 0 SJ.rd [93] (by rw [sw]; simpa using hm1)
          have HRk : Hid (R = .bad (hd (L.drop j)).p 90) := hR
          clear hR hm1 sw SJ nd LP hRo
          go_wp2_with (go_at_call 118; refine MT.out.mono ?_; rintro e w4 ⟨rfl, s4⟩; have hs4 := s4.size; have r4 : rowAt w4 w.heap.size = some c.cells := (s4.row (by omega) (by omega)).trans r0; have m4 : roomAt w4 (w.heap.size + 1) 6 = true := (s4.room (by omega) (by omega) 6).trans m0; have A4 : Hid (Ds w w4 b g cap L j ((o : Int) + 1) 90 ((hd (L.drop j)).p : Int)) := A0.out.1.next s4; have c24 := A4.out.rd.c2; have f24 := A4.out.rd.fz 2; have l4 := A4.out.rd.bl)
          rw [HRk.out]
          exact ret_cell1 rfl rfl (loadNd_row (rowNd_put _ _ _ ((roomAt_far _ _ _ _ _ nb3).trans m4))) rfl ⟨_, j, _, rfl, by decide, (A4.out.setO _).old bl gl _ (by omega) _⟩
      · have hsz := SJ.size
        have hql := row_lt r0
        have hml : w.heap.size + 1 < wr.heap.size := by
          have := m0; unfold roomAt at this; split at this
          · rename_i hb; exact (Array.getElem?_eq_some_iff.1 hb).1
          · cases this
        have hR := HR.out
        rw [hRb, Rs.bind_bad] at hR
        have HRk : Hid (R = .bad p er ∧ er ≠ 0 ∧ Ds w wr b g cap L i' o' er (p : Int)) := ⟨hR, he, SJ⟩
        have MT : Hid (Calls Tryd.prog 118 #[.pointer (some ⟨b, 0, none⟩), .string (bs [93])] wr _) := mark_d wr b g cap L i' o' er p SJ.rd [93] he (sg_dead he)
        clear hR SJ LP hRb he
        go_wp2_with (go_at_call 118; refine MT.out.mono ?_; rintro e w4 ⟨rfl, s4⟩; have hs4 := s4.size; have r4 : rowAt w4 w.heap.size = some c.cells := (s4.row (by omega) (by omega)).trans r0; have m4 : roomAt w4 (w.heap.size + 1) 6 = true := (s4.room (by omega) (by omega) 6).trans m0; have A4 : Hid (Ds w w4 b g cap L i' o' er (p : Int)) := HRk.out.2.2.next s4; have c24 := A4.out.rd.c2; have f24 := A4.out.rd.fz 2; have l4 := A4.out.rd.bl)
        rw [HRk.out.1]
        exact ret_cell1 rfl rfl (loadNd_row (rowNd_put _ _ _ ((roomAt_far _ _ _ _ _ nb3).trans m4))) rfl ⟨_, i', _, rfl, HRk.out.2.1, (A4.out.setO _).old bl gl _ (by omega) _⟩
end Go.Proofs.YtejcjhoojpoamaaDoor
