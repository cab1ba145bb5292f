/-
  Layer 9, the document's: calls.
-/
import Derived.Test.YtejcjhoojpoamaaDoorRqs
import Derived.Test.YtejcjhoojpoamaaDoorDix
namespace Go.Proofs.YtejcjhoojpoamaaDoor
set_option linter.unusedVariables false
set_option linter.unusedSimpArgs false
open Go.ChangeShapes Go.WideShapes Go.ChangeAt Go.RowKit
attribute [local go_sem ↓] loadTk_seal storeTk_seal loadKeys_seal loadSigns_seal
attribute [local go_sem] loadTk_run storeTk_run rowAt_at rowAt_old rowAt_drew rowAt_drewN roomTk_new roomAt_old roomAt_drew roomAt_drewN putTk_new Tk.fold putRow_past rowTk_put size_put putRow_drew putRow_drewN alloc_drewN setCell_drewN Tk.at0 Tk.at1 Tk.at2 Tk.at3 Tk.size Tk.set0 Tk.set1 Tk.set2 Tk.set3 Tk.ne rowAt_set rowAt_far roomAt_far
attribute [local go_sem ↓] loadNd_seal storeNd_seal
attribute [local go_sem] loadNd_run storeNd_run roomNd_new putNd_new Nc.fold rowNd_put Nc.at0 Nc.at1 Nc.at2 Nc.at3 Nc.at4 Nc.at5 Nc.size Nc.set0 Nc.set1 Nc.set2 Nc.set3 Nc.set4 Nc.set5 Nc.ne
attribute [local go_sem] fieldTk0 fieldTk3
attribute [local go_sem ↓] bslNd_seal
attribute [local go_sem] bslNd1_run bslNd2_run
attribute [local go_sem ↓] appN_seal

theorem row_of2 {W W' : World} {q : Nat} {X : Array Value} (h : W'.heap[q]? = W.heap[q]?) (hr : rowAt W q = some X) : rowAt W' q = some X := by unfold rowAt at hr ⊢; rw [h]; exact hr
theorem room_of2 {W W' : World} {q n : Nat} (h : W'.heap[q]? = W.heap[q]?) (hr : roomAt W q n = true) : roomAt W' q n = true := by unfold roomAt at hr ⊢; rw [h]; exact hr
theorem room_lt {W : World} {q n : Nat} (hr : roomAt W q n = true) : q < W.heap.size := by
  unfold roomAt at hr; split at hr
  · rename_i hb; exact (Array.getElem?_eq_some_iff.1 hb).1
  · cases hr
/-- What the loops over parts of a node keep: more to come; no more; given up. -/
def Kdm (w X : World) (b g cap : Nat) (L : List Tok) (i o q0 qo : Nat) (K : Int) (pt : Nat) (pre : List Nd) (Q : Nat → Prop) (nt : NT) (Rr : Rs Nd) (f j : Nat) : Prop := ∃ acc cs a m f1 len, f1 ≤ f + 1 ∧ run f1 (.row [44] nt acc) (o + 1) (L.drop j) = Rr ∧ (L.length - j) * 40 + 23 ≤ f1 ∧ i < j ∧ acc.length ≤ j ∧ len = (pre ++ acc).length ∧ rowAt X qo = some (⟨K, ⟨#[]⟩, 0, false, a, len, m, (pt : Int)⟩ : Nc).cells ∧ roomAt X qo 6 = true ∧ roomAt X q0 6 = true ∧ Ds w X b g cap L j ((o : Int) + 1) 0 0 ∧ Rq X w.heap.size Q (.slice a len m) (pre ++ acc) cs
def Kdn (w X : World) (b g cap : Nat) (L : List Tok) (i o q0 qo : Nat) (K : Int) (pt : Nat) (pre : List Nd) (Q : Nat → Prop) (Rr : Rs Nd) (j : Nat) : Prop := ∃ acc cs a m len, Rr = .ok (lst acc) (L.drop j) ∧ i < j ∧ len = (pre ++ acc).length ∧ rowAt X qo = some (⟨K, ⟨#[]⟩, 0, false, a, len, m, (pt : Int)⟩ : Nc).cells ∧ roomAt X qo 6 = true ∧ roomAt X q0 6 = true ∧ Ds w X b g cap L j ((o : Int) + 1) 0 0 ∧ Rq X w.heap.size Q (.slice a len m) (pre ++ acc) cs
def Kdd (w X : World) (b g cap : Nat) (L : List Tok) (q0 qo : Nat) (Rr : Rs Nd) : Prop := ∃ c i' o' p er, er ≠ 0 ∧ Rr = .bad p er ∧ rowAt X qo = some (Nc.cells c) ∧ roomAt X qo 6 = true ∧ roomAt X q0 6 = true ∧ Ds w X b g cap L i' o' er (p : Int)
theorem room_set2 {W : World} {q n o : Nat} {v : Value} (h : roomAt W q n = true) : roomAt (W.setCell ⟨q, o, none⟩ v) q n = true := by
  unfold roomAt at h ⊢
  split at h
  · rename_i Y t fr hb
    rw [Go.Joins.block_setCell hb]
    simpa using h
  · cases h
set_option maxHeartbeats 4000000 in
set_option maxRecDepth 20000 in
theorem dcall_any (f : Nat) (hE : ∀ f', f' ≤ f → Pd 19 .expr f') (w : World) (b g cap : Nat) (L : List Tok) (i o : Nat) (h : DAt w b g cap L i (o : Int) 0 0) (ho : o ≤ 24) (hok : ∀ x ∈ L, okT x) (hk : (hd (L.drop i)).k ≠ 0) (hf : (L.length - i) * 40 ≤ f + 18) (c0 : Nc) (P : Nat → Prop) (hP1 : ∀ x, P x → x ≠ b) (hP2 : ∀ x, w.heap.size ≤ x → P x) (n1 : Nd) (hc : NdAt w P c0 n1) :
    Calls Tryd.prog 132 #[.pointer (some ⟨b, 0, none⟩), .agg c0.cells, .int .i64 ((hd (L.drop i)).p : Int)] w (PostDP w b g cap L i o P (calR (f + 1) o n1 (L.drop i))) := by
  have bl := h.bl
  have gl := h.gl
  have hil := h.il
  have hll := h.ll
  have H : Hid (DAt w b g cap L i (o : Int) 0 0) := h
  have HC : Hid (NdAt w P c0 n1) := hc
  have HE : Hid (∀ f', f' ≤ f → Pd 19 .expr f') := hE
  have HOK : Hid (∀ x ∈ L, okT x) := hok
  have nb3 : w.heap.size + 1 ≠ b := by omega
  have nbo : w.heap.size + 1 + 1 + 1 ≠ b := by omega
  have hn : i + 1 < L.length := h.last i h.il (by rw [← h.hd]; exact hk)
  unfold calR beginR
  obtain ⟨tk, htk⟩ : ∃ tk, tk = hd (L.drop i) := ⟨_, rfl⟩
  by_cases ho24 : o = 24
  · subst ho24
    rw [if_pos rfl, Rs.bind_bad]
    have OP : Hid (∀ X, DAt X b g cap L i 24 0 0 → Calls Tryd.prog 98 #[.pointer (some ⟨b, 0, none⟩), .int .i64 1] X _) := fun X hX => opens_f X b g cap L i hX
    have MD : Hid (∀ X er p, er ≠ 0 → DAt X b g cap L i 24 er p → Calls Tryd.prog 118 #[.pointer (some ⟨b, 0, none⟩), .string (bs [41])] X _) := fun X er p he hX => mark_d X b g cap L i 24 er p hX [41] he (sg_dead he)
    clear h hc hE hok hk
    rw [← htk] at OP ⊢
    clear htk
    go_enter Tryd.func132, Tryd.ntmps132
    go_wp2_with (go_at_call 98; go_loud (refine (OP.out _ ((((H.out.alloc _).alloc _).alloc _).alloc _)).mono ?_; rintro e w1 ⟨rfl, s1⟩; have hs1 := s1.size; simp at hs1; have c31 := s1.rd.c3; have l1 := s1.rd.bl; have r1 : rowAt w1 (w.heap.size + 1 + 1 + 1) = some (⟨35, ⟨#[]⟩, 0, false, some ⟨w.heap.size + 1 + 1, 0, none⟩, 1, 1, (tk.p : Int)⟩ : Nc).cells := (s1.row (by first | (simp; done) | (simp; omega)) (by omega)).trans (rowAt_at _ _ _ _ _ (by first | (simp; done) | (simp; omega))); have k1 : roomAt w1 (w.heap.size + 1 + 1 + 1) 6 = true := (s1.room (by first | (simp; done) | (simp; omega)) (by omega) 6).trans (roomNd_new _ _ _ _ (by first | (simp; done) | (simp; omega))); have m1 : roomAt w1 (w.heap.size + 1) 6 = true := (s1.room (by first | (simp; done) | (simp; omega)) (by omega) 6).trans ((roomAt_old _ _ _ _ (by first | (simp; done) | (simp; omega))).trans ((roomAt_old _ _ _ _ (by first | (simp; done) | (simp; omega))).trans (roomNd_new _ _ _ _ (by first | (simp; done) | (simp; omega))))); have b1 : w1.heap[w.heap.size + 1 + 1]? = some (.cells c0.cells 25 (0, 0)) := (s1.gb.block _ (by first | (simp; done) | (simp; omega)) (fun e => by injection e with e; omega)).trans ((((Below.refl _ _).alloc (Nat.le_refl _) _).block _ (by first | (simp; done) | (simp; omega))).trans (heap_new' _ _ (by first | (simp; done) | (simp; omega))))))
    have A1 : Hid (Ds w w1 b g cap L i 24 91 (tk.p : Int)) := (((((Ds.refl H.out).alloc _).alloc _).alloc _).alloc _).next s1
    go_loopg [8] 1 (fun gf s7 X => s7 = .bool false ∧ X = w1)
    case atStart => exact ⟨rfl, rfl⟩
    case round =>
      obtain ⟨rfl, hX⟩ := hrel
      obtain rfl := hX
      go_wp2_with (go_at_call 118; refine (MD.out _ _ _ (by decide) A1.out.rd).mono ?_; rintro e w4 ⟨rfl, s4⟩; have hs4 := s4.size; have r4 : rowAt w4 (w.heap.size + 1 + 1 + 1) = _ := (s4.row (by omega) (by omega)).trans r1; have m4 : roomAt w4 (w.heap.size + 1) 6 = true := (s4.room (by omega) (by omega) 6).trans m1; have A4 : Hid (Ds w w4 b g cap L i 24 91 (tk.p : Int)) := A1.out.next s4; have c24 := A4.out.rd.c2; have f24 := A4.out.rd.fz 2; have l4 := A4.out.rd.bl)
      exact ret_cell1 rfl rfl (loadNd_row (rowNd_put _ _ _ ((roomAt_far _ _ _ _ _ nb3).trans m4))) rfl ⟨_, i, _, rfl, by decide, (A4.out.setO _).old bl gl _ (by omega) _⟩
  · rw [if_neg ho24, Rs.bind_ok, List.tail_drop]
    have OP : Hid (∀ X, DAt X b g cap L i (o : Int) 0 0 → Calls Tryd.prog 98 #[.pointer (some ⟨b, 0, none⟩), .int .i64 1] X _) := fun X hX => opens_t X b g cap L i o hX (by omega) hk
    clear h hc hE hok hk
    rw [← htk] at OP ⊢
    clear htk
    obtain ⟨Rr, hRr⟩ : ∃ Rr, Rr = (if wd (L.drop (i + 1)) = [41] then .ok (lst []) (L.drop (i + 1)) else run (f + 1) (.row [44] .expr []) (o + 1) (L.drop (i + 1))) := ⟨_, rfl⟩
    rw [← hRr]
    obtain ⟨R, hR⟩ : ∃ R, R = Rr.bind fun y s => (mustR [41] s).bind fun _ u => .ok (Nd.mk 35 [] 0 false (n1 :: y.kids) tk.p) u := ⟨_, rfl⟩
    rw [← hR]
    have HR : Hid (R = Rr.bind fun y s => (mustR [41] s).bind fun _ u => .ok (Nd.mk 35 [] 0 false ([n1] ++ y.kids) tk.p) u) := hR
    clear hR
    have SG : Hid (∀ X, DAt X b g cap L (i + 1) ((o : Int) + 1) 0 0 → Calls Tryd.prog 76 #[.pointer (some ⟨b, 0, none⟩), .string (bs [41])] X fun e w' => e = .returned (.bool (decide (wd (L.drop (i + 1)) = [41]))) ∧ Below X.heap.size X w') := fun X hX => by
      have := sign_d X b g cap L (i + 1) _ 0 0 hX [41]
      rwa [sg_wd (hX.okt HOK.out) (by decide)] at this
    obtain ⟨Q, hQ⟩ : ∃ Q : Nat → Prop, Q = fun x => P x ∧ x ≠ w.heap.size + 1 + 1 + 1 ∧ x ≠ w.heap.size + 1 := ⟨_, rfl⟩
    have QP : Hid (∀ x, Q x → P x) := fun x hx => by rw [hQ] at hx; exact hx.1
    have QB : Hid (∀ x, Q x → x ≠ b) := fun x hx => by rw [hQ] at hx; exact hP1 x hx.1
    have QW : Hid (∀ x, w.heap.size ≤ x → x ≠ w.heap.size + 1 + 1 + 1 → x ≠ w.heap.size + 1 → Q x) := fun x h1 h2 h3 => by rw [hQ]; exact ⟨hP2 x h1, h2, h3⟩
    have NQ : Hid (¬ Q (w.heap.size + 1 + 1 + 1) ∧ ¬ Q (w.heap.size + 1)) := ⟨fun h => by rw [hQ] at h; exact h.2.1 rfl, fun h => by rw [hQ] at h; exact h.2.2 rfl⟩
    have HQ2 : Hid (∀ x, P x → x ≠ w.heap.size + 1 + 1 + 1 → x ≠ w.heap.size + 1 → Q x) := fun x h1 h2 h3 => by rw [hQ]; exact ⟨h1, h2, h3⟩
    clear hQ
    by_cases hw : wd (L.drop (i + 1)) = [41]
    · rw [if_pos hw] at hRr
      have d1 : decide (wd (L.drop (i + 1)) = [41]) = true := by simpa using hw
      have HRr : Hid (Rr = .ok (lst []) (L.drop (i + 1))) := hRr
      clear hw hRr
      go_enter Tryd.func132, Tryd.ntmps132
      go_wp2_with (first
        | (go_at_call 98; go_loud (refine (OP.out _ ((((H.out.alloc _).alloc _).alloc _).alloc _)).mono ?_; rintro e w1 ⟨rfl, s1⟩; have hs1 := s1.size; simp at hs1; have c31 := s1.rd.c3; have l1 := s1.rd.bl; have r1 : rowAt w1 (w.heap.size + 1 + 1 + 1) = some (⟨35, ⟨#[]⟩, 0, false, some ⟨w.heap.size + 1 + 1, 0, none⟩, 1, 1, (tk.p : Int)⟩ : Nc).cells := (s1.row (by first | (simp; done) | (simp; omega)) (by omega)).trans (rowAt_at _ _ _ _ _ (by first | (simp; done) | (simp; omega))); have k1 : roomAt w1 (w.heap.size + 1 + 1 + 1) 6 = true := (s1.room (by first | (simp; done) | (simp; omega)) (by omega) 6).trans (roomNd_new _ _ _ _ (by first | (simp; done) | (simp; omega))); have m1 : roomAt w1 (w.heap.size + 1) 6 = true := (s1.room (by first | (simp; done) | (simp; omega)) (by omega) 6).trans ((roomAt_old _ _ _ _ (by first | (simp; done) | (simp; omega))).trans ((roomAt_old _ _ _ _ (by first | (simp; done) | (simp; omega))).trans (roomNd_new _ _ _ _ (by first | (simp; done) | (simp; omega))))); have b1 : w1.heap[w.heap.size + 1 + 1]? = some (.cells c0.cells 25 (0, 0)) := (s1.gb.block _ (by first | (simp; done) | (simp; omega)) (fun e => by injection e with e; omega)).trans ((((Below.refl _ _).alloc (Nat.le_refl _) _).block _ (by first | (simp; done) | (simp; omega))).trans (heap_new' _ _ (by first | (simp; done) | (simp; omega))))))
        | (go_at_call 76; have A1 : Ds w w1 b g cap L (i + 1) ((o : Int) + 1) 0 0 := (((((Ds.refl H.out).alloc _).alloc _).alloc _).alloc _).next s1; refine (SG.out _ A1.rd).mono ?_; rintro e w2 ⟨rfl, hb2⟩))
      have hs2 := hb2.size
      have r2 : rowAt w2 (w.heap.size + 1 + 1 + 1) = _ := (rowAt_below hb2 _ (by omega)).trans r1
      have k2 : roomAt w2 (w.heap.size + 1 + 1 + 1) 6 = true := (roomAt_below hb2 _ _ (by omega)).trans k1
      have m2 : roomAt w2 (w.heap.size + 1) 6 = true := (roomAt_below hb2 _ _ (by omega)).trans m1
      have S2 := A1.below hb2
      have RQ2 : Rq w2 w.heap.size Q (.slice (some ⟨w.heap.size + 1 + 1, 0, none⟩) 1 1) [n1] [c0] := by
        refine ⟨rfl, own_one ((hb2.block _ (by omega)).trans b1) (by omega), fun q hq => ?_, fun j h1 h2 => ?_⟩
        · simp only [Value.ownBlock, Option.some.injEq] at hq; rw [← hq]; exact QW.out _ (by omega) (by omega) (by omega)
        · have : j = 0 := by simp at h1; omega
          subst this
          exact HC.out.keep (fun x hx hl => ⟨HQ2.out x hx (by omega) (by omega), by simp only [Value.ownBlock]; intro e; injection e with e; omega⟩) S2.gb.size (fun x hx hl => S2.gb.block x hl (fun e => by injection e with e; exact hP1 x hx e))
      have LP : Kdn w w2 b g cap L i o (w.heap.size + 1) (w.heap.size + 1 + 1 + 1) 35 tk.p [n1] Q Rr (i + 1) := ⟨[], [c0], _, _, 1, HRr.out, by omega, rfl, r2, k2, m2, A1.below hb2, RQ2⟩
      clear A1 s1 S2 RQ2 r2 k2 m2 b1 r1 k1 m1 c31 l1 HRr OP SG d1
      go_loopg [8] (L.length + 1) (fun gf s7 X => ∃ j, (s7 = .bool true ∧ Kdm w X b g cap L i o (w.heap.size + 1) (w.heap.size + 1 + 1 + 1) 35 tk.p [n1] Q .expr Rr f j ∧ L.length + 1 ≤ j + gf) ∨ (s7 = .bool false ∧ (Kdn w X b g cap L i o (w.heap.size + 1) (w.heap.size + 1 + 1 + 1) 35 tk.p [n1] Q Rr j ∨ Kdd w X b g cap L (w.heap.size + 1) (w.heap.size + 1 + 1 + 1) Rr)))
      case atStart => exact ⟨i + 1, .inr ⟨rfl, .inl LP⟩⟩
      case round =>
        obtain ⟨j, ⟨rfl, ⟨acc, cs, a, m, f1, len, hf1, hrun0, hfu, hij, haj, hlen, r0, k0, m0, SJ, RQ⟩, hg⟩ | ⟨rfl, ⟨acc, cs, a, m, len, hRo, hij, hlen, r0, k0, m0, SJ, RQ⟩ | ⟨c, i', o', p, er, he, hRb, r0, k0, m0, SJ⟩⟩⟩ := hrel
        · have hjl := SJ.rd.il
          obtain ⟨g', rfl⟩ : ∃ g', gk = g' + 1 := ⟨gk - 1, by omega⟩
          obtain ⟨f2, rfl⟩ : ∃ f2, f1 = f2 + 1 := ⟨f1 - 1, by omega⟩
          have hsz := SJ.size
          have hql := row_lt r0
          have hml := room_lt m0
          have A0 : Hid (Ds w wr b g cap L j ((o : Int) + 1) 0 0 ∧ Rq wr w.heap.size Q (.slice a len m) ([n1] ++ acc) cs) := ⟨SJ, RQ⟩
          have HL : Hid (len = ([n1] ++ acc).length ∧ len ≤ 100002) := ⟨hlen, by rw [hlen]; simp; omega⟩
          have QN : Hid (∀ x, wr.heap.size ≤ x → Q x) := fun x hx => QW.out x (by omega) (by omega) (by omega)
          have c0r := rowAt_cell r0
          rw [run] at hrun0
          clear SJ RQ LP hlen
          have EX : Hid (∀ X, DAt X b g cap L j ((o : Int) + 1) 0 0 → Calls Tryd.prog 19 #[.pointer (some ⟨b, 0, none⟩)] X (PostD X b g cap L j (o + 1) (run f2 .expr (o + 1) (L.drop j)))) := fun X hX => HE.out f2 (by omega) X b g cap L j (o + 1) (by simpa using hX) (by omega) HOK.out (by show (L.length - j) * 40 + 20 ≤ f2; omega)
          cases hr2 : run f2 .expr (o + 1) (L.drop j) with
          | bad pe er =>
            rw [hr2] at EX hrun0
            rw [Rs.bind_bad] at hrun0
            have HB : Hid (Rr = .bad pe er) := hrun0.symm
            clear hr2 hrun0
            have SI : Hid (∀ X i2 o2, DAt X b g cap L i2 o2 er (pe : Int) → er ≠ 0 → Calls Tryd.prog 76 #[.pointer (some ⟨b, 0, none⟩), .string (bs [44])] X fun e w' => e = .returned (.bool false) ∧ Below X.heap.size X w') := fun X i2 o2 hX he => by have := sign_d X b g cap L i2 o2 er pe hX [44]; rwa [sg_dead he] at this
            go_wp2_with (first
              | (go_at_call 76; have hx := SY; clear hx; refine (SI.out _ _ _ SY.out.rd he2).mono ?_; rintro e w3 ⟨rfl, hb3⟩; have hs3 := hb3.size; simp at hs3; have K3 : roomAt w3 (w.heap.size + 1 + 1 + 1) 6 = true := (roomAt_below hb3 _ _ (by simp; omega)).trans KY; have M3 : roomAt w3 (w.heap.size + 1) 6 = true := (roomAt_below hb3 _ _ (by simp; omega)).trans MY; have R3 : rowAt w3 (w.heap.size + 1 + 1 + 1) = _ := (rowAt_below hb3 _ (by simp; omega)).trans RY)
              | (go_at_call 19; refine (EX.out _ A0.out.1.rd).mono ?_; rintro e w2 ⟨c2, i2, o2, rfl, he2, s2⟩; have hs2 := s2.size; have r2q : rowAt w2 (w.heap.size + 1 + 1 + 1) = some _ := (s2.row (by omega) (by omega)).trans r0; have c2q := rowAt_cell r2q; have hlq : (w.heap.size + 1 + 1 + 1) < w2.heap.size := (by omega); have hnq : (w.heap.size + 1 + 1 + 1) ≠ w2.heap.size := (by omega); have gbx := s2.gb; have hbX : Below w2.heap.size w2 ((w2.alloc (.cells c2.cells 25)).alloc (.cells c2.cells 25)) := ((Below.refl _ _).alloc (Nat.le_refl _) _).alloc (by simp) _; have DX := (((A0.out.1.next s2).alloc (.cells c2.cells 25)).alloc (.cells c2.cells 25)); have RQ2 := (A0.out.2.gb QB.out s2.gb).call hbX; obtain ⟨ga, cpa, Y, hrun, _, hgr, _⟩ := own_app (a := w2.heap.size + 1) (c := c2) RQ2.own (by simp; omega) (heap_new' _ _ (by simp)) (by have := HL.out.1; have := HL.out.2; have := RQ2.len; omega); rw [RQ2.len, ← HL.out.1] at hrun; have hqY : Y.heap[(w.heap.size + 1 + 1 + 1)]? = wr.heap[(w.heap.size + 1 + 1 + 1)]? := (hgr.block (w.heap.size + 1 + 1 + 1) (by simp; omega) (fun e => NQ.out.1 (A0.out.2.blk (w.heap.size + 1 + 1 + 1) e.symm))).trans ((hbX.block (w.heap.size + 1 + 1 + 1) (by omega)).trans (gbx.block (w.heap.size + 1 + 1 + 1) (by omega) (fun e => by injection e with e; omega))); have hq0Y : Y.heap[(w.heap.size + 1)]? = wr.heap[(w.heap.size + 1)]? := (hgr.block (w.heap.size + 1) (by simp; omega) (fun e => NQ.out.2 (A0.out.2.blk (w.heap.size + 1) e.symm))).trans ((hbX.block (w.heap.size + 1) (by omega)).trans (gbx.block (w.heap.size + 1) (by omega) (fun e => by injection e with e; omega))); have rY := row_of2 hqY r0; have kY := room_of2 hqY k0; have mY := room_of2 hq0Y m0; have cY := rowAt_cell rY; have fY : Y.frozen? ⟨(w.heap.size + 1 + 1 + 1), 4, none⟩ = false := (by have := (room_there kY 4 (by omega)).2; rwa [Nat.zero_add] at this); have hsY := hgr.size; simp at hsY; have SY : Hid (Ds w (Y.setCell ⟨(w.heap.size + 1 + 1 + 1), 4, none⟩ (.slice (some ⟨ga, 0, none⟩) (len + 1) cpa)) b g cap L i2 o2 er (pe : Int)) := (DX.grow bl gl RQ2.own hgr).far bl gl (w.heap.size + 1 + 1 + 1) 4 (by omega) _; have RY : rowAt (Y.setCell ⟨(w.heap.size + 1 + 1 + 1), 4, none⟩ (.slice (some ⟨ga, 0, none⟩) (len + 1) cpa)) (w.heap.size + 1 + 1 + 1) = some (⟨35, ⟨#[]⟩, 0, false, some ⟨ga, 0, none⟩, len + 1, cpa, (tk.p : Int)⟩ : Nc).cells := rowAt_set _ _ _ _ _ rY; have KY : roomAt (Y.setCell ⟨(w.heap.size + 1 + 1 + 1), 4, none⟩ (.slice (some ⟨ga, 0, none⟩) (len + 1) cpa)) (w.heap.size + 1 + 1 + 1) 6 = true := room_set2 kY; have MY : roomAt (Y.setCell ⟨(w.heap.size + 1 + 1 + 1), 4, none⟩ (.slice (some ⟨ga, 0, none⟩) (len + 1) cpa)) (w.heap.size + 1) 6 = true := (roomAt_far _ _ _ _ _ (by show (w.heap.size + 1) ≠ (w.heap.size + 1 + 1 + 1); omega)).trans mY; clear hgr rY kY mY hqY hq0Y gbx DX)
              | (go_at_call 129; refine (when_f _ _).mono ?_; rintro e w' ⟨rfl, hw⟩; obtain rfl := hw.symm; clear hw))
            have LN : Kdd w w3 b g cap L (w.heap.size + 1) (w.heap.size + 1 + 1 + 1) Rr := ⟨_, i2, o2, pe, er, he2, HB.out, R3, K3, M3, SY.out.below hb3⟩
            go_roundg g'
            case measure => omega
            case rel => exact ⟨0, .inr ⟨rfl, .inr LN⟩⟩
          | ok y s =>
            rw [hr2] at EX hrun0
            rw [Rs.bind_ok] at hrun0
            clear hr2
            by_cases hcm : wd s = [44]
            · rw [if_pos hcm] at hrun0
              have HRN : Hid (run f2 (.row [44] .expr (acc ++ [y])) (o + 1) s.tail = Rr) := hrun0
              have SI : Hid (∀ X i2, s = L.drop i2 → DAt X b g cap L i2 ((o + 1 : Nat) : Int) 0 0 → Calls Tryd.prog 76 #[.pointer (some ⟨b, 0, none⟩), .string (bs [44])] X fun e w' => e = .returned (.bool true) ∧ Below X.heap.size X w') := fun X i2 e2 hX => by have := sign_d X b g cap L i2 _ 0 0 hX [44]; rwa [sg_wd (hX.okt HOK.out) (by decide), ← e2, show decide (wd s = [44]) = true by simpa using hcm] at this
              have HKK : Hid (∀ i2, s = L.drop i2 → (hd (L.drop i2)).k ≠ 0) := fun i2 e2 => by rw [← e2]; exact wd_kind (by rw [hcm]; decide)
              clear hcm hrun0
              go_wp2_with (first
                | (go_at_call 76; have hx := SY; clear hx; refine (SI.out _ i2 ht2 SY.out.rd).mono ?_; rintro e w3 ⟨rfl, hb3⟩; have hs3 := hb3.size; simp at hs3; have K3 : roomAt w3 (w.heap.size + 1 + 1 + 1) 6 = true := (roomAt_below hb3 _ _ (by simp; omega)).trans KY; have M3 : roomAt w3 (w.heap.size + 1) 6 = true := (roomAt_below hb3 _ _ (by simp; omega)).trans MY; have R3 : rowAt w3 (w.heap.size + 1 + 1 + 1) = _ := (rowAt_below hb3 _ (by simp; omega)).trans RY)
                | (go_at_call 19; refine (EX.out _ A0.out.1.rd).mono ?_; rintro e w2 ⟨c2, i2, rfl, ht2, hi2, s2, nd2⟩; have hs2 := s2.size; have r2q : rowAt w2 (w.heap.size + 1 + 1 + 1) = some _ := (s2.row (by omega) (by omega)).trans r0; have c2q := rowAt_cell r2q; have hlq : (w.heap.size + 1 + 1 + 1) < w2.heap.size := (by omega); have hnq : (w.heap.size + 1 + 1 + 1) ≠ w2.heap.size := (by omega); have gbx := s2.gb; have hbX : Below w2.heap.size w2 ((w2.alloc (.cells c2.cells 25)).alloc (.cells c2.cells 25)) := ((Below.refl _ _).alloc (Nat.le_refl _) _).alloc (by simp) _; have DX := (((A0.out.1.next s2).alloc (.cells c2.cells 25)).alloc (.cells c2.cells 25)); have RQ2 := (A0.out.2.gb QB.out s2.gb).call hbX; obtain ⟨ga, cpa, Y, hrun, RQ3, hgr⟩ := RQ2.app (a := w2.heap.size + 1) (by simp; omega) (fun x hx => QN.out x (by simp at hx; omega)) (c := c2) (n := y) (heap_new' _ _ (by simp)) (nd2.keep (fun x hx hl => ⟨QN.out x hx, fun e => by have := (own_lt' A0.out.2.own e).1; omega⟩) (by simp; omega) (fun x hx hl => hbX.block x hl)) (by have := HL.out.1; have := HL.out.2; omega); rw [← HL.out.1] at hrun RQ3; have hqY : Y.heap[(w.heap.size + 1 + 1 + 1)]? = wr.heap[(w.heap.size + 1 + 1 + 1)]? := (hgr.block (w.heap.size + 1 + 1 + 1) (by simp; omega) (fun e => NQ.out.1 (A0.out.2.blk (w.heap.size + 1 + 1 + 1) e.symm))).trans ((hbX.block (w.heap.size + 1 + 1 + 1) (by omega)).trans (gbx.block (w.heap.size + 1 + 1 + 1) (by omega) (fun e => by injection e with e; omega))); have hq0Y : Y.heap[(w.heap.size + 1)]? = wr.heap[(w.heap.size + 1)]? := (hgr.block (w.heap.size + 1) (by simp; omega) (fun e => NQ.out.2 (A0.out.2.blk (w.heap.size + 1) e.symm))).trans ((hbX.block (w.heap.size + 1) (by omega)).trans (gbx.block (w.heap.size + 1) (by omega) (fun e => by injection e with e; omega))); have rY := row_of2 hqY r0; have kY := room_of2 hqY k0; have mY := room_of2 hq0Y m0; have cY := rowAt_cell rY; have fY : Y.frozen? ⟨(w.heap.size + 1 + 1 + 1), 4, none⟩ = false := (by have := (room_there kY 4 (by omega)).2; rwa [Nat.zero_add] at this); have hsY := hgr.size; simp at hsY; have SY : Hid (Ds w (Y.setCell ⟨(w.heap.size + 1 + 1 + 1), 4, none⟩ (.slice (some ⟨ga, 0, none⟩) (len + 1) cpa)) b g cap L i2 ((o + 1 : Nat) : Int) 0 0) := (DX.grow bl gl RQ2.own hgr).far bl gl (w.heap.size + 1 + 1 + 1) 4 (by omega) _; have RY : rowAt (Y.setCell ⟨(w.heap.size + 1 + 1 + 1), 4, none⟩ (.slice (some ⟨ga, 0, none⟩) (len + 1) cpa)) (w.heap.size + 1 + 1 + 1) = some (⟨35, ⟨#[]⟩, 0, false, some ⟨ga, 0, none⟩, len + 1, cpa, (tk.p : Int)⟩ : Nc).cells := rowAt_set _ _ _ _ _ rY; have KY : roomAt (Y.setCell ⟨(w.heap.size + 1 + 1 + 1), 4, none⟩ (.slice (some ⟨ga, 0, none⟩) (len + 1) cpa)) (w.heap.size + 1 + 1 + 1) 6 = true := room_set2 kY; have MY : roomAt (Y.setCell ⟨(w.heap.size + 1 + 1 + 1), 4, none⟩ (.slice (some ⟨ga, 0, none⟩) (len + 1) cpa)) (w.heap.size + 1) 6 = true := (roomAt_far _ _ _ _ _ (by show (w.heap.size + 1) ≠ (w.heap.size + 1 + 1 + 1); omega)).trans mY; have RQY : Hid (Rq (Y.setCell ⟨(w.heap.size + 1 + 1 + 1), 4, none⟩ (.slice (some ⟨ga, 0, none⟩) (len + 1) cpa)) w.heap.size Q (.slice (some ⟨ga, 0, none⟩) (len + 1) cpa) ([n1] ++ (acc ++ [y])) (cs ++ [c2])) := (by have := RQ3.keep (Y := Y.setCell ⟨(w.heap.size + 1 + 1 + 1), 4, none⟩ (.slice (some ⟨ga, 0, none⟩) (len + 1) cpa)) (by simp) (fun x hx hl => Below.heap_setCell _ _ _ _ (by show x ≠ (w.heap.size + 1 + 1 + 1); exact fun e => NQ.out.1 (by rw [← e]; exact hx))); rwa [List.append_assoc] at this); clear RQ3 hgr rY kY mY hqY hq0Y gbx DX; clear nd2)
                | (go_at_call 129; have hx := hb3; clear hx; refine (when_t _ b g cap L i2 _ _ _ (SY.out.below hb3).rd (HKK.out i2 ht2)).mono ?_; rintro e w4 ⟨rfl, s4⟩; have hs4 := s4.size))
              have LN : Kdm w w4 b g cap L i o (w.heap.size + 1) (w.heap.size + 1 + 1 + 1) 35 tk.p [n1] Q .expr Rr f (i2 + 1) := by
                have i2l := s4.rd.il
                refine ⟨acc ++ [y], cs ++ [c2], _, _, f2, len + 1, by omega, by rw [← List.tail_drop, ← ht2]; exact HRN.out, by omega, by omega, by simp; omega, by have := HL.out.1; simp at this ⊢; omega, (s4.row (by omega) (by omega)).trans R3, (s4.room (by omega) (by omega) 6).trans K3, (s4.room (by omega) (by omega) 6).trans M3, ?_, (RQY.out.call hb3).gb QB.out s4.gb⟩
                have := (SY.out.below hb3).next s4
                simpa using this
              have i2l := s4.rd.il
              go_roundg g'
              case measure => omega
              case rel => exact ⟨i2 + 1, .inl ⟨rfl, LN, by omega⟩⟩
            · rw [if_neg hcm] at hrun0
              have HRN : Hid (Rr = .ok (lst (acc ++ [y])) s) := hrun0.symm
              have SI : Hid (∀ X i2, s = L.drop i2 → DAt X b g cap L i2 ((o + 1 : Nat) : Int) 0 0 → Calls Tryd.prog 76 #[.pointer (some ⟨b, 0, none⟩), .string (bs [44])] X fun e w' => e = .returned (.bool false) ∧ Below X.heap.size X w') := fun X i2 e2 hX => by have := sign_d X b g cap L i2 _ 0 0 hX [44]; rwa [sg_wd (hX.okt HOK.out) (by decide), ← e2, show decide (wd s = [44]) = false by simpa using hcm] at this
              clear hcm hrun0
              go_wp2_with (first
                | (go_at_call 76; have hx := SY; clear hx; refine (SI.out _ i2 ht2 SY.out.rd).mono ?_; rintro e w3 ⟨rfl, hb3⟩; have hs3 := hb3.size; simp at hs3; have K3 : roomAt w3 (w.heap.size + 1 + 1 + 1) 6 = true := (roomAt_below hb3 _ _ (by simp; omega)).trans KY; have M3 : roomAt w3 (w.heap.size + 1) 6 = true := (roomAt_below hb3 _ _ (by simp; omega)).trans MY; have R3 : rowAt w3 (w.heap.size + 1 + 1 + 1) = _ := (rowAt_below hb3 _ (by simp; omega)).trans RY)
                | (go_at_call 19; refine (EX.out _ A0.out.1.rd).mono ?_; rintro e w2 ⟨c2, i2, rfl, ht2, hi2, s2, nd2⟩; have hs2 := s2.size; have r2q : rowAt w2 (w.heap.size + 1 + 1 + 1) = some _ := (s2.row (by omega) (by omega)).trans r0; have c2q := rowAt_cell r2q; have hlq : (w.heap.size + 1 + 1 + 1) < w2.heap.size := (by omega); have hnq : (w.heap.size + 1 + 1 + 1) ≠ w2.heap.size := (by omega); have gbx := s2.gb; have hbX : Below w2.heap.size w2 ((w2.alloc (.cells c2.cells 25)).alloc (.cells c2.cells 25)) := ((Below.refl _ _).alloc (Nat.le_refl _) _).alloc (by simp) _; have DX := (((A0.out.1.next s2).alloc (.cells c2.cells 25)).alloc (.cells c2.cells 25)); have RQ2 := (A0.out.2.gb QB.out s2.gb).call hbX; obtain ⟨ga, cpa, Y, hrun, RQ3, hgr⟩ := RQ2.app (a := w2.heap.size + 1) (by simp; omega) (fun x hx => QN.out x (by simp at hx; omega)) (c := c2) (n := y) (heap_new' _ _ (by simp)) (nd2.keep (fun x hx hl => ⟨QN.out x hx, fun e => by have := (own_lt' A0.out.2.own e).1; omega⟩) (by simp; omega) (fun x hx hl => hbX.block x hl)) (by have := HL.out.1; have := HL.out.2; omega); rw [← HL.out.1] at hrun RQ3; have hqY : Y.heap[(w.heap.size + 1 + 1 + 1)]? = wr.heap[(w.heap.size + 1 + 1 + 1)]? := (hgr.block (w.heap.size + 1 + 1 + 1) (by simp; omega) (fun e => NQ.out.1 (A0.out.2.blk (w.heap.size + 1 + 1 + 1) e.symm))).trans ((hbX.block (w.heap.size + 1 + 1 + 1) (by omega)).trans (gbx.block (w.heap.size + 1 + 1 + 1) (by omega) (fun e => by injection e with e; omega))); have hq0Y : Y.heap[(w.heap.size + 1)]? = wr.heap[(w.heap.size + 1)]? := (hgr.block (w.heap.size + 1) (by simp; omega) (fun e => NQ.out.2 (A0.out.2.blk (w.heap.size + 1) e.symm))).trans ((hbX.block (w.heap.size + 1) (by omega)).trans (gbx.block (w.heap.size + 1) (by omega) (fun e => by injection e with e; omega))); have rY := row_of2 hqY r0; have kY := room_of2 hqY k0; have mY := room_of2 hq0Y m0; have cY := rowAt_cell rY; have fY : Y.frozen? ⟨(w.heap.size + 1 + 1 + 1), 4, none⟩ = false := (by have := (room_there kY 4 (by omega)).2; rwa [Nat.zero_add] at this); have hsY := hgr.size; simp at hsY; have SY : Hid (Ds w (Y.setCell ⟨(w.heap.size + 1 + 1 + 1), 4, none⟩ (.slice (some ⟨ga, 0, none⟩) (len + 1) cpa)) b g cap L i2 ((o + 1 : Nat) : Int) 0 0) := (DX.grow bl gl RQ2.own hgr).far bl gl (w.heap.size + 1 + 1 + 1) 4 (by omega) _; have RY : rowAt (Y.setCell ⟨(w.heap.size + 1 + 1 + 1), 4, none⟩ (.slice (some ⟨ga, 0, none⟩) (len + 1) cpa)) (w.heap.size + 1 + 1 + 1) = some (⟨35, ⟨#[]⟩, 0, false, some ⟨ga, 0, none⟩, len + 1, cpa, (tk.p : Int)⟩ : Nc).cells := rowAt_set _ _ _ _ _ rY; have KY : roomAt (Y.setCell ⟨(w.heap.size + 1 + 1 + 1), 4, none⟩ (.slice (some ⟨ga, 0, none⟩) (len + 1) cpa)) (w.heap.size + 1 + 1 + 1) 6 = true := room_set2 kY; have MY : roomAt (Y.setCell ⟨(w.heap.size + 1 + 1 + 1), 4, none⟩ (.slice (some ⟨ga, 0, none⟩) (len + 1) cpa)) (w.heap.size + 1) 6 = true := (roomAt_far _ _ _ _ _ (by show (w.heap.size + 1) ≠ (w.heap.size + 1 + 1 + 1); omega)).trans mY; have RQY : Hid (Rq (Y.setCell ⟨(w.heap.size + 1 + 1 + 1), 4, none⟩ (.slice (some ⟨ga, 0, none⟩) (len + 1) cpa)) w.heap.size Q (.slice (some ⟨ga, 0, none⟩) (len + 1) cpa) ([n1] ++ (acc ++ [y])) (cs ++ [c2])) := (by have := RQ3.keep (Y := Y.setCell ⟨(w.heap.size + 1 + 1 + 1), 4, none⟩ (.slice (some ⟨ga, 0, none⟩) (len + 1) cpa)) (by simp) (fun x hx hl => Below.heap_setCell _ _ _ _ (by show x ≠ (w.heap.size + 1 + 1 + 1); exact fun e => NQ.out.1 (by rw [← e]; exact hx))); rwa [List.append_assoc] at this); clear RQ3 hgr rY kY mY hqY hq0Y gbx DX; clear nd2)
                | (go_at_call 129; refine (when_f _ _).mono ?_; rintro e w' ⟨rfl, hw⟩; obtain rfl := hw.symm; clear hw))
              have LN : Kdn w w3 b g cap L i o (w.heap.size + 1) (w.heap.size + 1 + 1 + 1) 35 tk.p [n1] Q Rr i2 := ⟨acc ++ [y], cs ++ [c2], _, _, len + 1, by rw [HRN.out, ht2], by omega, by have := HL.out.1; simp at this ⊢; omega, R3, K3, M3, by simpa using SY.out.below hb3, RQY.out.call hb3⟩
              go_roundg g'
              case measure => omega
              case rel => exact ⟨i2, .inr ⟨rfl, .inl LN⟩⟩
        · have hsz := SJ.size
          have hql := row_lt r0
          have hml := room_lt m0
          have hR := HR.out
          rw [hRo, Rs.bind_ok] at hR
          have A0 : Hid (Ds w wr b g cap L j ((o : Int) + 1) 0 0 ∧ Rq wr w.heap.size Q (.slice a len m) ([n1] ++ acc) cs ∧ len = ([n1] ++ acc).length) := ⟨SJ, RQ, hlen⟩
          have sw := sg_wd (s := [41]) (SJ.rd.okt HOK.out) (by decide)
          unfold mustR at hR
          by_cases hm1 : wd (L.drop j) = [41]
          · rw [if_pos hm1, Rs.bind_ok, List.tail_drop] at hR
            have MT : Hid (Calls Tryd.prog 118 #[.pointer (some ⟨b, 0, none⟩), .string (bs [41])] wr _) := mark_t wr b g cap L j _ 0 SJ.rd [41] (wd_kind (by rw [hm1]; decide)) (by rw [sw]; simpa using hm1)
            have HRk : Hid (R = .ok (Nd.mk 35 [] 0 false ([n1] ++ acc) tk.p) (L.drop (j + 1))) := hR
            clear hR hm1 sw SJ RQ LP hRo hlen
            go_wp2_with (go_at_call 118; refine MT.out.mono ?_; rintro e w4 ⟨rfl, s4⟩; have hs4 := s4.size; have r4 : rowAt w4 (w.heap.size + 1 + 1 + 1) = _ := (s4.row (by omega) (by omega)).trans r0; have m4 : roomAt w4 (w.heap.size + 1) 6 = true := (s4.room (by omega) (by omega) 6).trans m0; have A4 : Hid (Ds w w4 b g cap L (j + 1) ((o : Int) + 1) 0 0) := A0.out.1.next s4; have c24 := A4.out.rd.c2; have f24 := A4.out.rd.fz 2; have l4 := A4.out.rd.bl)
            rw [HRk.out]
            have RQ5 := (A0.out.2.1.gb QB.out s4.gb).keep (Y := putRow (w4.setCell ⟨b, 2, none⟩ (.int .i64 (o : Int))) (w.heap.size + 1) (⟨35, ⟨#[]⟩, 0, false, a, len, m, (tk.p : Int)⟩ : Nc).cells) (by rw [size_put]; simp) (fun x hx hl => (put_far _ _ _ _ (fun e => NQ.out.2 (by rw [← e]; exact hx))).trans (Below.heap_setCell _ _ _ _ (by show x ≠ b; exact QB.out x hx)))
            refine ret_cell1 rfl rfl (loadNd_row (rowNd_put _ _ _ ((roomAt_far _ _ _ _ _ nb3).trans m4))) rfl ⟨_, j + 1, rfl, rfl, by omega, (A4.out.setO _).old bl gl _ (by omega) _, ?_⟩
            have hl9 := A0.out.2.2
            subst hl9
            exact NdAt.mk 35 [] 0 false ([n1] ++ acc) tk.p _ m (RQ5.kids.keep (fun x hx _ => QP.out x hx) (Nat.le_refl _) (fun _ _ _ => rfl))
          · rw [if_neg hm1, Rs.bind_bad] at hR
            have MT : Hid (Calls Tryd.prog 118 #[.pointer (some ⟨b, 0, none⟩), .string (bs [41])] wr _) := mark_f wr b g cap L j _ 0 SJ.rd [41] (by rw [sw]; simpa using hm1)
            have HRk : Hid (R = .bad (hd (L.drop j)).p 90) := hR
            clear hR hm1 sw SJ RQ LP hRo hlen
            go_wp2_with (go_at_call 118; refine MT.out.mono ?_; rintro e w4 ⟨rfl, s4⟩; have hs4 := s4.size; have r4 : rowAt w4 (w.heap.size + 1 + 1 + 1) = _ := (s4.row (by omega) (by omega)).trans r0; have m4 : roomAt w4 (w.heap.size + 1) 6 = true := (s4.room (by omega) (by omega) 6).trans m0; have A4 : Hid (Ds w w4 b g cap L j ((o : Int) + 1) 90 ((hd (L.drop j)).p : Int)) := A0.out.1.next s4; have c24 := A4.out.rd.c2; have f24 := A4.out.rd.fz 2; have l4 := A4.out.rd.bl)
            rw [HRk.out]
            exact ret_cell1 rfl rfl (loadNd_row (rowNd_put _ _ _ ((roomAt_far _ _ _ _ _ nb3).trans m4))) rfl ⟨_, j, _, rfl, by decide, (A4.out.setO _).old bl gl _ (by omega) _⟩
        · have hsz := SJ.size
          have hql := row_lt r0
          have hml := room_lt m0
          have hR := HR.out
          rw [hRb, Rs.bind_bad] at hR
          have HRk : Hid (R = .bad p er ∧ er ≠ 0 ∧ Ds w wr b g cap L i' o' er (p : Int)) := ⟨hR, he, SJ⟩
          have MT : Hid (Calls Tryd.prog 118 #[.pointer (some ⟨b, 0, none⟩), .string (bs [41])] wr _) := mark_d wr b g cap L i' o' er p SJ.rd [41] he (sg_dead he)
          clear hR SJ LP hRb he
          go_wp2_with (go_at_call 118; refine MT.out.mono ?_; rintro e w4 ⟨rfl, s4⟩; have hs4 := s4.size; have r4 : rowAt w4 (w.heap.size + 1 + 1 + 1) = _ := (s4.row (by omega) (by omega)).trans r0; have m4 : roomAt w4 (w.heap.size + 1) 6 = true := (s4.room (by omega) (by omega) 6).trans m0; have A4 : Hid (Ds w w4 b g cap L i' o' er (p : Int)) := HRk.out.2.2.next s4; have c24 := A4.out.rd.c2; have f24 := A4.out.rd.fz 2; have l4 := A4.out.rd.bl)
          rw [HRk.out.1]
          exact ret_cell1 rfl rfl (loadNd_row (rowNd_put _ _ _ ((roomAt_far _ _ _ _ _ nb3).trans m4))) rfl ⟨_, i', _, rfl, HRk.out.2.1, (A4.out.setO _).old bl gl _ (by omega) _⟩
    · rw [if_neg hw] at hRr
      have d1 : decide (wd (L.drop (i + 1)) = [41]) = false := by simpa using hw
      have HRr : Hid (run (f + 1) (.row [44] .expr []) (o + 1) (L.drop (i + 1)) = Rr) := hRr.symm
      clear hw hRr
      go_enter Tryd.func132, Tryd.ntmps132
      go_wp2_with (first
        | (go_at_call 98; go_loud (refine (OP.out _ ((((H.out.alloc _).alloc _).alloc _).alloc _)).mono ?_; rintro e w1 ⟨rfl, s1⟩; have hs1 := s1.size; simp at hs1; have c31 := s1.rd.c3; have l1 := s1.rd.bl; have r1 : rowAt w1 (w.heap.size + 1 + 1 + 1) = some (⟨35, ⟨#[]⟩, 0, false, some ⟨w.heap.size + 1 + 1, 0, none⟩, 1, 1, (tk.p : Int)⟩ : Nc).cells := (s1.row (by first | (simp; done) | (simp; omega)) (by omega)).trans (rowAt_at _ _ _ _ _ (by first | (simp; done) | (simp; omega))); have k1 : roomAt w1 (w.heap.size + 1 + 1 + 1) 6 = true := (s1.room (by first | (simp; done) | (simp; omega)) (by omega) 6).trans (roomNd_new _ _ _ _ (by first | (simp; done) | (simp; omega))); have m1 : roomAt w1 (w.heap.size + 1) 6 = true := (s1.room (by first | (simp; done) | (simp; omega)) (by omega) 6).trans ((roomAt_old _ _ _ _ (by first | (simp; done) | (simp; omega))).trans ((roomAt_old _ _ _ _ (by first | (simp; done) | (simp; omega))).trans (roomNd_new _ _ _ _ (by first | (simp; done) | (simp; omega))))); have b1 : w1.heap[w.heap.size + 1 + 1]? = some (.cells c0.cells 25 (0, 0)) := (s1.gb.block _ (by first | (simp; done) | (simp; omega)) (fun e => by injection e with e; omega)).trans ((((Below.refl _ _).alloc (Nat.le_refl _) _).block _ (by first | (simp; done) | (simp; omega))).trans (heap_new' _ _ (by first | (simp; done) | (simp; omega))))))
        | (go_at_call 76; have A1 : Ds w w1 b g cap L (i + 1) ((o : Int) + 1) 0 0 := (((((Ds.refl H.out).alloc _).alloc _).alloc _).alloc _).next s1; refine (SG.out _ A1.rd).mono ?_; rintro e w2 ⟨rfl, hb2⟩))
      have hs2 := hb2.size
      have r2 : rowAt w2 (w.heap.size + 1 + 1 + 1) = _ := (rowAt_below hb2 _ (by omega)).trans r1
      have k2 : roomAt w2 (w.heap.size + 1 + 1 + 1) 6 = true := (roomAt_below hb2 _ _ (by omega)).trans k1
      have m2 : roomAt w2 (w.heap.size + 1) 6 = true := (roomAt_below hb2 _ _ (by omega)).trans m1
      have S2 := A1.below hb2
      have RQ2 : Rq w2 w.heap.size Q (.slice (some ⟨w.heap.size + 1 + 1, 0, none⟩) 1 1) [n1] [c0] := by
        refine ⟨rfl, own_one ((hb2.block _ (by omega)).trans b1) (by omega), fun q hq => ?_, fun j h1 h2 => ?_⟩
        · simp only [Value.ownBlock, Option.some.injEq] at hq; rw [← hq]; exact QW.out _ (by omega) (by omega) (by omega)
        · have : j = 0 := by simp at h1; omega
          subst this
          exact HC.out.keep (fun x hx hl => ⟨HQ2.out x hx (by omega) (by omega), by simp only [Value.ownBlock]; intro e; injection e with e; omega⟩) S2.gb.size (fun x hx hl => S2.gb.block x hl (fun e => by injection e with e; exact hP1 x hx e))
      have LP : Kdm w w2 b g cap L i o (w.heap.size + 1) (w.heap.size + 1 + 1 + 1) 35 tk.p [n1] Q .expr Rr f (i + 1) := ⟨[], [c0], _, _, f + 1, 1, Nat.le_refl _, HRr.out, by omega, by omega, by simp, rfl, r2, k2, m2, A1.below hb2, RQ2⟩
      clear A1 s1 S2 RQ2 r2 k2 m2 b1 r1 k1 m1 c31 l1 HRr OP SG d1
      go_loopg [8] (L.length + 1) (fun gf s7 X => ∃ j, (s7 = .bool true ∧ Kdm w X b g cap L i o (w.heap.size + 1) (w.heap.size + 1 + 1 + 1) 35 tk.p [n1] Q .expr Rr f j ∧ L.length + 1 ≤ j + gf) ∨ (s7 = .bool false ∧ (Kdn w X b g cap L i o (w.heap.size + 1) (w.heap.size + 1 + 1 + 1) 35 tk.p [n1] Q Rr j ∨ Kdd w X b g cap L (w.heap.size + 1) (w.heap.size + 1 + 1 + 1) Rr)))
      case atStart => exact ⟨i + 1, .inl ⟨rfl, LP, by omega⟩⟩
      case round =>
        obtain ⟨j, ⟨rfl, ⟨acc, cs, a, m, f1, len, hf1, hrun0, hfu, hij, haj, hlen, r0, k0, m0, SJ, RQ⟩, hg⟩ | ⟨rfl, ⟨acc, cs, a, m, len, hRo, hij, hlen, r0, k0, m0, SJ, RQ⟩ | ⟨c, i', o', p, er, he, hRb, r0, k0, m0, SJ⟩⟩⟩ := hrel
        · have hjl := SJ.rd.il
          obtain ⟨g', rfl⟩ : ∃ g', gk = g' + 1 := ⟨gk - 1, by omega⟩
          obtain ⟨f2, rfl⟩ : ∃ f2, f1 = f2 + 1 := ⟨f1 - 1, by omega⟩
          have hsz := SJ.size
          have hql := row_lt r0
          have hml := room_lt m0
          have A0 : Hid (Ds w wr b g cap L j ((o : Int) + 1) 0 0 ∧ Rq wr w.heap.size Q (.slice a len m) ([n1] ++ acc) cs) := ⟨SJ, RQ⟩
          have HL : Hid (len = ([n1] ++ acc).length ∧ len ≤ 100002) := ⟨hlen, by rw [hlen]; simp; omega⟩
          have QN : Hid (∀ x, wr.heap.size ≤ x → Q x) := fun x hx => QW.out x (by omega) (by omega) (by omega)
          have c0r := rowAt_cell r0
          rw [run] at hrun0
          clear SJ RQ LP hlen
          have EX : Hid (∀ X, DAt X b g cap L j ((o : Int) + 1) 0 0 → Calls Tryd.prog 19 #[.pointer (some ⟨b, 0, none⟩)] X (PostD X b g cap L j (o + 1) (run f2 .expr (o + 1) (L.drop j)))) := fun X hX => HE.out f2 (by omega) X b g cap L j (o + 1) (by simpa using hX) (by omega) HOK.out (by show (L.length - j) * 40 + 20 ≤ f2; omega)
          cases hr2 : run f2 .expr (o + 1) (L.drop j) with
          | bad pe er =>
            rw [hr2] at EX hrun0
            rw [Rs.bind_bad] at hrun0
            have HB : Hid (Rr = .bad pe er) := hrun0.symm
            clear hr2 hrun0
            have SI : Hid (∀ X i2 o2, DAt X b g cap L i2 o2 er (pe : Int) → er ≠ 0 → Calls Tryd.prog 76 #[.pointer (some ⟨b, 0, none⟩), .string (bs [44])] X fun e w' => e = .returned (.bool false) ∧ Below X.heap.size X w') := fun X i2 o2 hX he => by have := sign_d X b g cap L i2 o2 er pe hX [44]; rwa [sg_dead he] at this
            go_wp2_with (first
              | (go_at_call 76; have hx := SY; clear hx; refine (SI.out _ _ _ SY.out.rd he2).mono ?_; rintro e w3 ⟨rfl, hb3⟩; have hs3 := hb3.size; simp at hs3; have K3 : roomAt w3 (w.heap.size + 1 + 1 + 1) 6 = true := (roomAt_below hb3 _ _ (by simp; omega)).trans KY; have M3 : roomAt w3 (w.heap.size + 1) 6 = true := (roomAt_below hb3 _ _ (by simp; omega)).trans MY; have R3 : rowAt w3 (w.heap.size + 1 + 1 + 1) = _ := (rowAt_below hb3 _ (by simp; omega)).trans RY)
              | (go_at_call 19; refine (EX.out _ A0.out.1.rd).mono ?_; rintro e w2 ⟨c2, i2, o2, rfl, he2, s2⟩; have hs2 := s2.size; have r2q : rowAt w2 (w.heap.size + 1 + 1 + 1) = some _ := (s2.row (by omega) (by omega)).trans r0; have c2q := rowAt_cell r2q; have hlq : (w.heap.size + 1 + 1 + 1) < w2.heap.size := (by omega); have hnq : (w.heap.size + 1 + 1 + 1) ≠ w2.heap.size := (by omega); have gbx := s2.gb; have hbX : Below w2.heap.size w2 ((w2.alloc (.cells c2.cells 25)).alloc (.cells c2.cells 25)) := ((Below.refl _ _).alloc (Nat.le_refl _) _).alloc (by simp) _; have DX := (((A0.out.1.next s2).alloc (.cells c2.cells 25)).alloc (.cells c2.cells 25)); have RQ2 := (A0.out.2.gb QB.out s2.gb).call hbX; obtain ⟨ga, cpa, Y, hrun, _, hgr, _⟩ := own_app (a := w2.heap.size + 1) (c := c2) RQ2.own (by simp; omega) (heap_new' _ _ (by simp)) (by have := HL.out.1; have := HL.out.2; have := RQ2.len; omega); rw [RQ2.len, ← HL.out.1] at hrun; have hqY : Y.heap[(w.heap.size + 1 + 1 + 1)]? = wr.heap[(w.heap.size + 1 + 1 + 1)]? := (hgr.block (w.heap.size + 1 + 1 + 1) (by simp; omega) (fun e => NQ.out.1 (A0.out.2.blk (w.heap.size + 1 + 1 + 1) e.symm))).trans ((hbX.block (w.heap.size + 1 + 1 + 1) (by omega)).trans (gbx.block (w.heap.size + 1 + 1 + 1) (by omega) (fun e => by injection e with e; omega))); have hq0Y : Y.heap[(w.heap.size + 1)]? = wr.heap[(w.heap.size + 1)]? := (hgr.block (w.heap.size + 1) (by simp; omega) (fun e => NQ.out.2 (A0.out.2.blk (w.heap.size + 1) e.symm))).trans ((hbX.block (w.heap.size + 1) (by omega)).trans (gbx.block (w.heap.size + 1) (by omega) (fun e => by injection e with e; omega))); have rY := row_of2 hqY r0; have kY := room_of2 hqY k0; have mY := room_of2 hq0Y m0; have cY := rowAt_cell rY; have fY : Y.frozen? ⟨(w.heap.size + 1 + 1 + 1), 4, none⟩ = false := (by have := (room_there kY 4 (by omega)).2; rwa [Nat.zero_add] at this); have hsY := hgr.size; simp at hsY; have SY : Hid (Ds w (Y.setCell ⟨(w.heap.size + 1 + 1 + 1), 4, none⟩ (.slice (some ⟨ga, 0, none⟩) (len + 1) cpa)) b g cap L i2 o2 er (pe : Int)) := (DX.grow bl gl RQ2.own hgr).far bl gl (w.heap.size + 1 + 1 + 1) 4 (by omega) _; have RY : rowAt (Y.setCell ⟨(w.heap.size + 1 + 1 + 1), 4, none⟩ (.slice (some ⟨ga, 0, none⟩) (len + 1) cpa)) (w.heap.size + 1 + 1 + 1) = some (⟨35, ⟨#[]⟩, 0, false, some ⟨ga, 0, none⟩, len + 1, cpa, (tk.p : Int)⟩ : Nc).cells := rowAt_set _ _ _ _ _ rY; have KY : roomAt (Y.setCell ⟨(w.heap.size + 1 + 1 + 1), 4, none⟩ (.slice (some ⟨ga, 0, none⟩) (len + 1) cpa)) (w.heap.size + 1 + 1 + 1) 6 = true := room_set2 kY; have MY : roomAt (Y.setCell ⟨(w.heap.size + 1 + 1 + 1), 4, none⟩ (.slice (some ⟨ga, 0, none⟩) (len + 1) cpa)) (w.heap.size + 1) 6 = true := (roomAt_far _ _ _ _ _ (by show (w.heap.size + 1) ≠ (w.heap.size + 1 + 1 + 1); omega)).trans mY; clear hgr rY kY mY hqY hq0Y gbx DX)
              | (go_at_call 129; refine (when_f _ _).mono ?_; rintro e w' ⟨rfl, hw⟩; obtain rfl := hw.symm; clear hw))
            have LN : Kdd w w3 b g cap L (w.heap.size + 1) (w.heap.size + 1 + 1 + 1) Rr := ⟨_, i2, o2, pe, er, he2, HB.out, R3, K3, M3, SY.out.below hb3⟩
            go_roundg g'
            case measure => omega
            case rel => exact ⟨0, .inr ⟨rfl, .inr LN⟩⟩
          | ok y s =>
            rw [hr2] at EX hrun0
            rw [Rs.bind_ok] at hrun0
            clear hr2
            by_cases hcm : wd s = [44]
            · rw [if_pos hcm] at hrun0
              have HRN : Hid (run f2 (.row [44] .expr (acc ++ [y])) (o + 1) s.tail = Rr) := hrun0
              have SI : Hid (∀ X i2, s = L.drop i2 → DAt X b g cap L i2 ((o + 1 : Nat) : Int) 0 0 → Calls Tryd.prog 76 #[.pointer (some ⟨b, 0, none⟩), .string (bs [44])] X fun e w' => e = .returned (.bool true) ∧ Below X.heap.size X w') := fun X i2 e2 hX => by have := sign_d X b g cap L i2 _ 0 0 hX [44]; rwa [sg_wd (hX.okt HOK.out) (by decide), ← e2, show decide (wd s = [44]) = true by simpa using hcm] at this
              have HKK : Hid (∀ i2, s = L.drop i2 → (hd (L.drop i2)).k ≠ 0) := fun i2 e2 => by rw [← e2]; exact wd_kind (by rw [hcm]; decide)
              clear hcm hrun0
              go_wp2_with (first
                | (go_at_call 76; have hx := SY; clear hx; refine (SI.out _ i2 ht2 SY.out.rd).mono ?_; rintro e w3 ⟨rfl, hb3⟩; have hs3 := hb3.size; simp at hs3; have K3 : roomAt w3 (w.heap.size + 1 + 1 + 1) 6 = true := (roomAt_below hb3 _ _ (by simp; omega)).trans KY; have M3 : roomAt w3 (w.heap.size + 1) 6 = true := (roomAt_below hb3 _ _ (by simp; omega)).trans MY; have R3 : rowAt w3 (w.heap.size + 1 + 1 + 1) = _ := (rowAt_below hb3 _ (by simp; omega)).trans RY)
                | (go_at_call 19; refine (EX.out _ A0.out.1.rd).mono ?_; rintro e w2 ⟨c2, i2, rfl, ht2, hi2, s2, nd2⟩; have hs2 := s2.size; have r2q : rowAt w2 (w.heap.size + 1 + 1 + 1) = some _ := (s2.row (by omega) (by omega)).trans r0; have c2q := rowAt_cell r2q; have hlq : (w.heap.size + 1 + 1 + 1) < w2.heap.size := (by omega); have hnq : (w.heap.size + 1 + 1 + 1) ≠ w2.heap.size := (by omega); have gbx := s2.gb; have hbX : Below w2.heap.size w2 ((w2.alloc (.cells c2.cells 25)).alloc (.cells c2.cells 25)) := ((Below.refl _ _).alloc (Nat.le_refl _) _).alloc (by simp) _; have DX := (((A0.out.1.next s2).alloc (.cells c2.cells 25)).alloc (.cells c2.cells 25)); have RQ2 := (A0.out.2.gb QB.out s2.gb).call hbX; obtain ⟨ga, cpa, Y, hrun, RQ3, hgr⟩ := RQ2.app (a := w2.heap.size + 1) (by simp; omega) (fun x hx => QN.out x (by simp at hx; omega)) (c := c2) (n := y) (heap_new' _ _ (by simp)) (nd2.keep (fun x hx hl => ⟨QN.out x hx, fun e => by have := (own_lt' A0.out.2.own e).1; omega⟩) (by simp; omega) (fun x hx hl => hbX.block x hl)) (by have := HL.out.1; have := HL.out.2; omega); rw [← HL.out.1] at hrun RQ3; have hqY : Y.heap[(w.heap.size + 1 + 1 + 1)]? = wr.heap[(w.heap.size + 1 + 1 + 1)]? := (hgr.block (w.heap.size + 1 + 1 + 1) (by simp; omega) (fun e => NQ.out.1 (A0.out.2.blk (w.heap.size + 1 + 1 + 1) e.symm))).trans ((hbX.block (w.heap.size + 1 + 1 + 1) (by omega)).trans (gbx.block (w.heap.size + 1 + 1 + 1) (by omega) (fun e => by injection e with e; omega))); have hq0Y : Y.heap[(w.heap.size + 1)]? = wr.heap[(w.heap.size + 1)]? := (hgr.block (w.heap.size + 1) (by simp; omega) (fun e => NQ.out.2 (A0.out.2.blk (w.heap.size + 1) e.symm))).trans ((hbX.block (w.heap.size + 1) (by omega)).trans (gbx.block (w.heap.size + 1) (by omega) (fun e => by injection e with e; omega))); have rY := row_of2 hqY r0; have kY := room_of2 hqY k0; have mY := room_of2 hq0Y m0; have cY := rowAt_cell rY; have fY : Y.frozen? ⟨(w.heap.size + 1 + 1 + 1), 4, none⟩ = false := (by have := (room_there kY 4 (by omega)).2; rwa [Nat.zero_add] at this); have hsY := hgr.size; simp at hsY; have SY : Hid (Ds w (Y.setCell ⟨(w.heap.size + 1 + 1 + 1), 4, none⟩ (.slice (some ⟨ga, 0, none⟩) (len + 1) cpa)) b g cap L i2 ((o + 1 : Nat) : Int) 0 0) := (DX.grow bl gl RQ2.own hgr).far bl gl (w.heap.size + 1 + 1 + 1) 4 (by omega) _; have RY : rowAt (Y.setCell ⟨(w.heap.size + 1 + 1 + 1), 4, none⟩ (.slice (some ⟨ga, 0, none⟩) (len + 1) cpa)) (w.heap.size + 1 + 1 + 1) = some (⟨35, ⟨#[]⟩, 0, false, some ⟨ga, 0, none⟩, len + 1, cpa, (tk.p : Int)⟩ : Nc).cells := rowAt_set _ _ _ _ _ rY; have KY : roomAt (Y.setCell ⟨(w.heap.size + 1 + 1 + 1), 4, none⟩ (.slice (some ⟨ga, 0, none⟩) (len + 1) cpa)) (w.heap.size + 1 + 1 + 1) 6 = true := room_set2 kY; have MY : roomAt (Y.setCell ⟨(w.heap.size + 1 + 1 + 1), 4, none⟩ (.slice (some ⟨ga, 0, none⟩) (len + 1) cpa)) (w.heap.size + 1) 6 = true := (roomAt_far _ _ _ _ _ (by show (w.heap.size + 1) ≠ (w.heap.size + 1 + 1 + 1); omega)).trans mY; have RQY : Hid (Rq (Y.setCell ⟨(w.heap.size + 1 + 1 + 1), 4, none⟩ (.slice (some ⟨ga, 0, none⟩) (len + 1) cpa)) w.heap.size Q (.slice (some ⟨ga, 0, none⟩) (len + 1) cpa) ([n1] ++ (acc ++ [y])) (cs ++ [c2])) := (by have := RQ3.keep (Y := Y.setCell ⟨(w.heap.size + 1 + 1 + 1), 4, none⟩ (.slice (some ⟨ga, 0, none⟩) (len + 1) cpa)) (by simp) (fun x hx hl => Below.heap_setCell _ _ _ _ (by show x ≠ (w.heap.size + 1 + 1 + 1); exact fun e => NQ.out.1 (by rw [← e]; exact hx))); rwa [List.append_assoc] at this); clear RQ3 hgr rY kY mY hqY hq0Y gbx DX; clear nd2)
                | (go_at_call 129; have hx := hb3; clear hx; refine (when_t _ b g cap L i2 _ _ _ (SY.out.below hb3).rd (HKK.out i2 ht2)).mono ?_; rintro e w4 ⟨rfl, s4⟩; have hs4 := s4.size))
              have LN : Kdm w w4 b g cap L i o (w.heap.size + 1) (w.heap.size + 1 + 1 + 1) 35 tk.p [n1] Q .expr Rr f (i2 + 1) := by
                have i2l := s4.rd.il
                refine ⟨acc ++ [y], cs ++ [c2], _, _, f2, len + 1, by omega, by rw [← List.tail_drop, ← ht2]; exact HRN.out, by omega, by omega, by simp; omega, by have := HL.out.1; simp at this ⊢; omega, (s4.row (by omega) (by omega)).trans R3, (s4.room (by omega) (by omega) 6).trans K3, (s4.room (by omega) (by omega) 6).trans M3, ?_, (RQY.out.call hb3).gb QB.out s4.gb⟩
                have := (SY.out.below hb3).next s4
                simpa using this
              have i2l := s4.rd.il
              go_roundg g'
              case measure => omega
              case rel => exact ⟨i2 + 1, .inl ⟨rfl, LN, by omega⟩⟩
            · rw [if_neg hcm] at hrun0
              have HRN : Hid (Rr = .ok (lst (acc ++ [y])) s) := hrun0.symm
              have SI : Hid (∀ X i2, s = L.drop i2 → DAt X b g cap L i2 ((o + 1 : Nat) : Int) 0 0 → Calls Tryd.prog 76 #[.pointer (some ⟨b, 0, none⟩), .string (bs [44])] X fun e w' => e = .returned (.bool false) ∧ Below X.heap.size X w') := fun X i2 e2 hX => by have := sign_d X b g cap L i2 _ 0 0 hX [44]; rwa [sg_wd (hX.okt HOK.out) (by decide), ← e2, show decide (wd s = [44]) = false by simpa using hcm] at this
              clear hcm hrun0
              go_wp2_with (first
                | (go_at_call 76; have hx := SY; clear hx; refine (SI.out _ i2 ht2 SY.out.rd).mono ?_; rintro e w3 ⟨rfl, hb3⟩; have hs3 := hb3.size; simp at hs3; have K3 : roomAt w3 (w.heap.size + 1 + 1 + 1) 6 = true := (roomAt_below hb3 _ _ (by simp; omega)).trans KY; have M3 : roomAt w3 (w.heap.size + 1) 6 = true := (roomAt_below hb3 _ _ (by simp; omega)).trans MY; have R3 : rowAt w3 (w.heap.size + 1 + 1 + 1) = _ := (rowAt_below hb3 _ (by simp; omega)).trans RY)
                | (go_at_call 19; refine (EX.out _ A0.out.1.rd).mono ?_; rintro e w2 ⟨c2, i2, rfl, ht2, hi2, s2, nd2⟩; have hs2 := s2.size; have r2q : rowAt w2 (w.heap.size + 1 + 1 + 1) = some _ := (s2.row (by omega) (by omega)).trans r0; have c2q := rowAt_cell r2q; have hlq : (w.heap.size + 1 + 1 + 1) < w2.heap.size := (by omega); have hnq : (w.heap.size + 1 + 1 + 1) ≠ w2.heap.size := (by omega); have gbx := s2.gb; have hbX : Below w2.heap.size w2 ((w2.alloc (.cells c2.cells 25)).alloc (.cells c2.cells 25)) := ((Below.refl _ _).alloc (Nat.le_refl _) _).alloc (by simp) _; have DX := (((A0.out.1.next s2).alloc (.cells c2.cells 25)).alloc (.cells c2.cells 25)); have RQ2 := (A0.out.2.gb QB.out s2.gb).call hbX; obtain ⟨ga, cpa, Y, hrun, RQ3, hgr⟩ := RQ2.app (a := w2.heap.size + 1) (by simp; omega) (fun x hx => QN.out x (by simp at hx; omega)) (c := c2) (n := y) (heap_new' _ _ (by simp)) (nd2.keep (fun x hx hl => ⟨QN.out x hx, fun e => by have := (own_lt' A0.out.2.own e).1; omega⟩) (by simp; omega) (fun x hx hl => hbX.block x hl)) (by have := HL.out.1; have := HL.out.2; omega); rw [← HL.out.1] at hrun RQ3; have hqY : Y.heap[(w.heap.size + 1 + 1 + 1)]? = wr.heap[(w.heap.size + 1 + 1 + 1)]? := (hgr.block (w.heap.size + 1 + 1 + 1) (by simp; omega) (fun e => NQ.out.1 (A0.out.2.blk (w.heap.size + 1 + 1 + 1) e.symm))).trans ((hbX.block (w.heap.size + 1 + 1 + 1) (by omega)).trans (gbx.block (w.heap.size + 1 + 1 + 1) (by omega) (fun e => by injection e with e; omega))); have hq0Y : Y.heap[(w.heap.size + 1)]? = wr.heap[(w.heap.size + 1)]? := (hgr.block (w.heap.size + 1) (by simp; omega) (fun e => NQ.out.2 (A0.out.2.blk (w.heap.size + 1) e.symm))).trans ((hbX.block (w.heap.size + 1) (by omega)).trans (gbx.block (w.heap.size + 1) (by omega) (fun e => by injection e with e; omega))); have rY := row_of2 hqY r0; have kY := room_of2 hqY k0; have mY := room_of2 hq0Y m0; have cY := rowAt_cell rY; have fY : Y.frozen? ⟨(w.heap.size + 1 + 1 + 1), 4, none⟩ = false := (by have := (room_there kY 4 (by omega)).2; rwa [Nat.zero_add] at this); have hsY := hgr.size; simp at hsY; have SY : Hid (Ds w (Y.setCell ⟨(w.heap.size + 1 + 1 + 1), 4, none⟩ (.slice (some ⟨ga, 0, none⟩) (len + 1) cpa)) b g cap L i2 ((o + 1 : Nat) : Int) 0 0) := (DX.grow bl gl RQ2.own hgr).far bl gl (w.heap.size + 1 + 1 + 1) 4 (by omega) _; have RY : rowAt (Y.setCell ⟨(w.heap.size + 1 + 1 + 1), 4, none⟩ (.slice (some ⟨ga, 0, none⟩) (len + 1) cpa)) (w.heap.size + 1 + 1 + 1) = some (⟨35, ⟨#[]⟩, 0, false, some ⟨ga, 0, none⟩, len + 1, cpa, (tk.p : Int)⟩ : Nc).cells := rowAt_set _ _ _ _ _ rY; have KY : roomAt (Y.setCell ⟨(w.heap.size + 1 + 1 + 1), 4, none⟩ (.slice (some ⟨ga, 0, none⟩) (len + 1) cpa)) (w.heap.size + 1 + 1 + 1) 6 = true := room_set2 kY; have MY : roomAt (Y.setCell ⟨(w.heap.size + 1 + 1 + 1), 4, none⟩ (.slice (some ⟨ga, 0, none⟩) (len + 1) cpa)) (w.heap.size + 1) 6 = true := (roomAt_far _ _ _ _ _ (by show (w.heap.size + 1) ≠ (w.heap.size + 1 + 1 + 1); omega)).trans mY; have RQY : Hid (Rq (Y.setCell ⟨(w.heap.size + 1 + 1 + 1), 4, none⟩ (.slice (some ⟨ga, 0, none⟩) (len + 1) cpa)) w.heap.size Q (.slice (some ⟨ga, 0, none⟩) (len + 1) cpa) ([n1] ++ (acc ++ [y])) (cs ++ [c2])) := (by have := RQ3.keep (Y := Y.setCell ⟨(w.heap.size + 1 + 1 + 1), 4, none⟩ (.slice (some ⟨ga, 0, none⟩) (len + 1) cpa)) (by simp) (fun x hx hl => Below.heap_setCell _ _ _ _ (by show x ≠ (w.heap.size + 1 + 1 + 1); exact fun e => NQ.out.1 (by rw [← e]; exact hx))); rwa [List.append_assoc] at this); clear RQ3 hgr rY kY mY hqY hq0Y gbx DX; clear nd2)
                | (go_at_call 129; refine (when_f _ _).mono ?_; rintro e w' ⟨rfl, hw⟩; obtain rfl := hw.symm; clear hw))
              have LN : Kdn w w3 b g cap L i o (w.heap.size + 1) (w.heap.size + 1 + 1 + 1) 35 tk.p [n1] Q Rr i2 := ⟨acc ++ [y], cs ++ [c2], _, _, len + 1, by rw [HRN.out, ht2], by omega, by have := HL.out.1; simp at this ⊢; omega, R3, K3, M3, by simpa using SY.out.below hb3, RQY.out.call hb3⟩
              go_roundg g'
              case measure => omega
              case rel => exact ⟨i2, .inr ⟨rfl, .inl LN⟩⟩
        · have hsz := SJ.size
          have hql := row_lt r0
          have hml := room_lt m0
          have hR := HR.out
          rw [hRo, Rs.bind_ok] at hR
          have A0 : Hid (Ds w wr b g cap L j ((o : Int) + 1) 0 0 ∧ Rq wr w.heap.size Q (.slice a len m) ([n1] ++ acc) cs ∧ len = ([n1] ++ acc).length) := ⟨SJ, RQ, hlen⟩
          have sw := sg_wd (s := [41]) (SJ.rd.okt HOK.out) (by decide)
          unfold mustR at hR
          by_cases hm1 : wd (L.drop j) = [41]
          · rw [if_pos hm1, Rs.bind_ok, List.tail_drop] at hR
            have MT : Hid (Calls Tryd.prog 118 #[.pointer (some ⟨b, 0, none⟩), .string (bs [41])] wr _) := mark_t wr b g cap L j _ 0 SJ.rd [41] (wd_kind (by rw [hm1]; decide)) (by rw [sw]; simpa using hm1)
            have HRk : Hid (R = .ok (Nd.mk 35 [] 0 false ([n1] ++ acc) tk.p) (L.drop (j + 1))) := hR
            clear hR hm1 sw SJ RQ LP hRo hlen
            go_wp2_with (go_at_call 118; refine MT.out.mono ?_; rintro e w4 ⟨rfl, s4⟩; have hs4 := s4.size; have r4 : rowAt w4 (w.heap.size + 1 + 1 + 1) = _ := (s4.row (by omega) (by omega)).trans r0; have m4 : roomAt w4 (w.heap.size + 1) 6 = true := (s4.room (by omega) (by omega) 6).trans m0; have A4 : Hid (Ds w w4 b g cap L (j + 1) ((o : Int) + 1) 0 0) := A0.out.1.next s4; have c24 := A4.out.rd.c2; have f24 := A4.out.rd.fz 2; have l4 := A4.out.rd.bl)
            rw [HRk.out]
            have RQ5 := (A0.out.2.1.gb QB.out s4.gb).keep (Y := putRow (w4.setCell ⟨b, 2, none⟩ (.int .i64 (o : Int))) (w.heap.size + 1) (⟨35, ⟨#[]⟩, 0, false, a, len, m, (tk.p : Int)⟩ : Nc).cells) (by rw [size_put]; simp) (fun x hx hl => (put_far _ _ _ _ (fun e => NQ.out.2 (by rw [← e]; exact hx))).trans (Below.heap_setCell _ _ _ _ (by show x ≠ b; exact QB.out x hx)))
            refine ret_cell1 rfl rfl (loadNd_row (rowNd_put _ _ _ ((roomAt_far _ _ _ _ _ nb3).trans m4))) rfl ⟨_, j + 1, rfl, rfl, by omega, (A4.out.setO _).old bl gl _ (by omega) _, ?_⟩
            have hl9 := A0.out.2.2
            subst hl9
            exact NdAt.mk 35 [] 0 false ([n1] ++ acc) tk.p _ m (RQ5.kids.keep (fun x hx _ => QP.out x hx) (Nat.le_refl _) (fun _ _ _ => rfl))
          · rw [if_neg hm1, Rs.bind_bad] at hR
            have MT : Hid (Calls Tryd.prog 118 #[.pointer (some ⟨b, 0, none⟩), .string (bs [41])] wr _) := mark_f wr b g cap L j _ 0 SJ.rd [41] (by rw [sw]; simpa using hm1)
            have HRk : Hid (R = .bad (hd (L.drop j)).p 90) := hR
            clear hR hm1 sw SJ RQ LP hRo hlen
            go_wp2_with (go_at_call 118; refine MT.out.mono ?_; rintro e w4 ⟨rfl, s4⟩; have hs4 := s4.size; have r4 : rowAt w4 (w.heap.size + 1 + 1 + 1) = _ := (s4.row (by omega) (by omega)).trans r0; have m4 : roomAt w4 (w.heap.size + 1) 6 = true := (s4.room (by omega) (by omega) 6).trans m0; have A4 : Hid (Ds w w4 b g cap L j ((o : Int) + 1) 90 ((hd (L.drop j)).p : Int)) := A0.out.1.next s4; have c24 := A4.out.rd.c2; have f24 := A4.out.rd.fz 2; have l4 := A4.out.rd.bl)
            rw [HRk.out]
            exact ret_cell1 rfl rfl (loadNd_row (rowNd_put _ _ _ ((roomAt_far _ _ _ _ _ nb3).trans m4))) rfl ⟨_, j, _, rfl, by decide, (A4.out.setO _).old bl gl _ (by omega) _⟩
        · have hsz := SJ.size
          have hql := row_lt r0
          have hml := room_lt m0
          have hR := HR.out
          rw [hRb, Rs.bind_bad] at hR
          have HRk : Hid (R = .bad p er ∧ er ≠ 0 ∧ Ds w wr b g cap L i' o' er (p : Int)) := ⟨hR, he, SJ⟩
          have MT : Hid (Calls Tryd.prog 118 #[.pointer (some ⟨b, 0, none⟩), .string (bs [41])] wr _) := mark_d wr b g cap L i' o' er p SJ.rd [41] he (sg_dead he)
          clear hR SJ LP hRb he
          go_wp2_with (go_at_call 118; refine MT.out.mono ?_; rintro e w4 ⟨rfl, s4⟩; have hs4 := s4.size; have r4 : rowAt w4 (w.heap.size + 1 + 1 + 1) = _ := (s4.row (by omega) (by omega)).trans r0; have m4 : roomAt w4 (w.heap.size + 1) 6 = true := (s4.room (by omega) (by omega) 6).trans m0; have A4 : Hid (Ds w w4 b g cap L i' o' er (p : Int)) := HRk.out.2.2.next s4; have c24 := A4.out.rd.c2; have f24 := A4.out.rd.fz 2; have l4 := A4.out.rd.bl)
          rw [HRk.out.1]
          exact ret_cell1 rfl rfl (loadNd_row (rowNd_put _ _ _ ((roomAt_far _ _ _ _ _ nb3).trans m4))) rfl ⟨_, i', _, rfl, HRk.out.2.1, (A4.out.setO _).old bl gl _ (by omega) _⟩
end Go.Proofs.YtejcjhoojpoamaaDoor
