/-
  Layer 9: indexes.
-/
import Derived.Test.YtllhcjmabhempaaDoorFld
import Derived.Test.YtllhcjmabhempaaDoorSet
namespace Go.Proofs.YtllhcjmabhempaaDoor
set_option linter.unusedVariables false
set_option linter.unusedSimpArgs false
open Go.ChangeShapes Go.WideShapes Go.ChangeAt Go.RowKit


attribute [local go_sem] fieldTk0 fieldTk3 fieldTk1 hmf
attribute [local go_sem ↓] bslNd_seal
attribute [local go_sem] bslNd1_run bslNd2_run

theorem loadNd_mid {w : World} {b o : Nat} (c : Nc) (h : ∀ i, i < 6 → w.cell? ⟨b, o + i, none⟩ = c.cells[i]?) : (loadNd ⟨b, o, none⟩).run Tryd.prog w = .ok (.agg c.cells) w := by
  have := run_loadVar_mid (P := Tryd.prog) w b o 31 c.cells.toList _ (fun j v hv => by
    have hj : j < 6 := by have := (List.getElem?_eq_some_iff.1 hv).1; simpa [Nc.size] using this
    rw [h j hj]; simpa using hv) Tryd.underlying31 rfl (by rw [Array.length_toList, Nc.size]; exact Tryd.sizeNd)
  simpa [loadNd] using this
theorem two_made {Y : World} {P : Nat → Prop} {blk : Nat} {c d : Nc} {n1 n2 : Nd} (k : Int) (t : Bs) (p : Nat) (hP : P blk) (hb : Y.heap[blk]? = some (.cells (c.cells ++ d.cells) 31 (0, 0))) (h1 : NdAt Y P c n1) (h2 : NdAt Y P d n2) : NdAt Y P ⟨k, bs t, 0, false, some ⟨blk, 0, none⟩, 2, 2, (p : Int)⟩ (.mk k t 0 false [n1, n2] p) := by
  have hl : blk < Y.heap.size := (Array.getElem?_eq_some_iff.1 hb).1
  refine NdAt.mk k t 0 false [n1, n2] p _ 2 (KidsAt.cons blk 0 c n1 [n2] hP hl (fun i hi => ?_) h1 (KidsAt.cons blk 1 d n2 [] hP hl (fun i hi => ?_) h2 (KidsAt.nil _ _)))
  · rw [← two0 c d i hi]; simp [World.cell?, hb]
  · rw [← two1 c d i hi]; simp [World.cell?, hb]
theorem idxN_step (p : Nat) (a : Nd) (l : List Nd) (j : Nat) (h : j < l.length) : idxN p a (l.take (j + 1)) = .mk 33 [] 0 false [idxN p a (l.take j), l[j]] p := by
  unfold idxN
  rw [List.take_succ_eq_append_getElem h, List.foldl_append]
  rfl
/-- What the loop over a row of indexes keeps. -/
structure Ix (w X : World) (b g cap : Nat) (L : List Tok) (i o : Nat) (P : Nat → Prop) (p : Nat) (n1 : Nd) (l : List Nd) (cs : List Nc) (g4 qn j : Nat) (cn : Nc) : Prop where
  st : St w X b g cap L i o
  row : rowAt X qn = some cn.cells
  room : roomAt X qn 6 = true
  res : roomAt X (w.heap.size + 1) 6 = true
  nd : NdAt X (fun x => P x ∧ x ≠ qn ∧ x ≠ w.heap.size + 1) cn (idxN p n1 (l.take j))
  gl : g4 < X.heap.size
  gn : g4 ≠ qn
  gr : g4 ≠ w.heap.size + 1
  gb : g4 ≠ b
  cel : ∀ k (h : k < cs.length), ∀ i, i < 6 → X.cell? ⟨g4, k * 6 + i, none⟩ = cs[k].cells[i]?
  nds : ∀ k (h : k < cs.length) (h2 : k < l.length), NdAt X (fun x => P x ∧ x ≠ qn ∧ x ≠ w.heap.size + 1) cs[k] l[k]
  jl : j ≤ l.length
theorem Ix.next {w X Y : World} {b g cap i o : Nat} {L : List Tok} {P : Nat → Prop} {p : Nat} {n1 : Nd} {l : List Nd} {cs : List Nc} {g4 qn j blk : Nat} {cn : Nc} (I : Ix w X b g cap L i o P p n1 l cs g4 qn j cn) (hj : j < l.length) (hl : cs.length = l.length) (bl : b < w.heap.size) (gl : g < w.heap.size) (hq : w.heap.size ≤ qn) (hqr : qn ≠ w.heap.size + 1)
    (hb : Below X.heap.size X Y) (hblk : X.heap.size ≤ blk) (hP : ∀ x, w.heap.size ≤ x → P x) (hY : Y.heap[blk]? = some (.cells (cn.cells ++ (cs[j]'(by omega)).cells) 31 (0, 0))) (hqX : qn < X.heap.size) (hrX : w.heap.size + 1 < X.heap.size) :
    Ix w (putRow Y qn (⟨33, bs [], 0, false, some ⟨blk, 0, none⟩, 2, 2, (p : Int)⟩ : Nc).cells) b g cap L i o P p n1 l cs g4 qn (j + 1) ⟨33, bs [], 0, false, some ⟨blk, 0, none⟩, 2, 2, (p : Int)⟩ := by
  have hz := I.st.size
  have hz2 := hb.size
  have kp : ∀ {c : Nc} {n : Nd}, NdAt X (fun x => P x ∧ x ≠ qn ∧ x ≠ w.heap.size + 1) c n → NdAt (putRow Y qn (⟨33, bs [], 0, false, some ⟨blk, 0, none⟩, 2, 2, (p : Int)⟩ : Nc).cells) (fun x => P x ∧ x ≠ qn ∧ x ≠ w.heap.size + 1) c n := fun hh => hh.keep (fun x hx _ => hx) (by rw [size_put]; exact hb.size) (fun x hx hl => (put_far _ _ _ _ hx.2.1).trans (hb.block x hl))
  have rm : roomAt Y qn 6 = true := (roomAt_below hb _ _ hqX).trans I.room
  exact {
    st := (I.st.below hb).old bl gl _ hq _
    row := rowNd_put _ _ _ rm
    room := room_keep rm _ rfl
    res := (room_far _ _ _ _ _ (fun e => hqr e.symm)).trans ((roomAt_below hb _ _ hrX).trans I.res)
    nd := by
      rw [idxN_step p n1 l j hj]
      exact two_made 33 [] p ⟨hP _ (by omega), by omega, by omega⟩ ((put_far _ _ _ _ (by omega)).trans hY) (kp I.nd) (kp (I.nds j (by omega) hj))
    gl := by rw [size_put]; exact Nat.lt_of_lt_of_le I.gl hb.size
    gn := I.gn
    gr := I.gr
    gb := I.gb
    cel := fun k h i hi => (World.cell?_of_block (a := ⟨g4, k * 6 + i, none⟩) ((put_far _ _ _ _ I.gn).trans (hb.block g4 I.gl))).trans (I.cel k h i hi)
    nds := fun k h h2 => kp (I.nds k h h2)
    jl := hj }
def idxR (f o : Nat) (n1 : Nd) (t : List Tok) : Rs Nd := (beginR o t).bind fun x r => (run f (.row [44] .expr []) (o + 1) r).bind fun y s => (mustR [93] s).bind fun _ u => .ok (idxN x.p n1 y.kids) u
set_option maxHeartbeats 4000000 in
set_option maxRecDepth 20000 in
theorem index_deep (w : World) (b g cap : Nat) (L : List Tok) (i : Nat) (h : RdAt w b g cap L i 24) (c : Nc) (P : Nat → Prop) :
    Calls Tryd.prog 86 #[.pointer (some ⟨b, 0, none⟩), .agg c.cells] w (PostP w b g cap L i 24 P (.bad (hd (L.drop i)).p 91)) := by
  have BN : Hid (∀ X, RdAt X b g cap L i 24 → Calls Tryd.prog 76 #[.pointer (some ⟨b, 0, none⟩)] X _) := fun X hX => begin_no X b g cap L i hX
  have H : Hid (RdAt w b g cap L i 24) := h
  clear h
  generalize (hd (L.drop i)).p = p at BN ⊢
  go_enter Tryd.func86, Tryd.ntmps86
  go_wp2_with (go_at_call 76; refine (BN.out _ ((H.out.alloc _).alloc _)).mono ?_; rintro e w2 ⟨he, g2⟩; unfold gaveUp at he; subst he)
  exact ⟨rfl, rfl, gb_trans (((St.refl H.out).alloc _).alloc _).gb g2⟩
set_option maxHeartbeats 4000000 in
set_option maxRecDepth 20000 in
theorem index_some (w : World) (b g cap : Nat) (L : List Tok) (i o : Nat) (h : RdAt w b g cap L i o) (hk : (hd (L.drop i)).k ≠ 0) (c : Nc) (P : Nat → Prop) (hP1 : ∀ x, P x → x ≠ b) (hP2 : ∀ x, w.heap.size ≤ x → P x) (n1 : Nd) (hc : NdAt w P c n1) (ho : o < 24) (R0 : Rs Nd)
    (hRO : ∀ X, RdAt X b g cap L (i + 1) (o + 1) → Calls Tryd.prog 33 #[.pointer (some ⟨b, 0, none⟩), .string (bs [44]), .func (.func 16) #[.pointer (some ⟨b, 0, none⟩)] #[]] X (PostL X b g cap L (i + 1) (o + 1) R0)) :
    Calls Tryd.prog 86 #[.pointer (some ⟨b, 0, none⟩), .agg c.cells] w (PostP w b g cap L i o P (R0.bind fun y s => (mustR [93] s).bind fun _ u => .ok (idxN (hd (L.drop i)).p n1 y.kids) u)) := by
  have BY : Hid (∀ X, RdAt X b g cap L i o → Calls Tryd.prog 76 #[.pointer (some ⟨b, 0, none⟩)] X _) := fun X hX => begin_yes X b g cap L i o hX ho hk
  have RO : Hid (∀ X, RdAt X b g cap L (i + 1) (o + 1) → Calls Tryd.prog 33 #[.pointer (some ⟨b, 0, none⟩), .string (bs [44]), .func (.func 16) #[.pointer (some ⟨b, 0, none⟩)] #[]] X (PostL X b g cap L (i + 1) (o + 1) R0)) := hRO
  have H : Hid (RdAt w b g cap L i o) := h
  have HC : Hid (NdAt w P c n1) := hc
  have bl := h.bl
  have gl := h.gl
  have hll := h.ll
  clear h hk hc hRO
  obtain ⟨tk, htk⟩ : ∃ tk, tk = hd (L.drop i) := ⟨_, rfl⟩
  rw [← htk] at BY ⊢
  clear htk
  cases R0 with
  | bad p er =>
    rw [Rs.bind_bad]
    go_enter Tryd.func86, Tryd.ntmps86
    go_wp2_with (first
      | (go_at_call 76; refine (BY.out _ ((H.out.alloc _).alloc _)).mono ?_; rintro e w1 ⟨rfl, s1⟩; have hs1 := s1.size; simp at hs1; have B1 : Hid (St w w1 b g cap L (i + 1) (o + 1)) := (((St.refl H.out).alloc _).alloc _).next s1; have r1 : rowAt w1 w.heap.size = some c.cells := (s1.row (by simp; omega) (by omega)).trans ((rowAt_old _ _ _ (by simp)).trans (rowAt_at _ _ _ _ _ rfl)))
      | (go_at_call 33; refine (RO.out _ (B1.out.alloc _).rd).mono ?_; rintro e w5 ⟨he, g5⟩; unfold gaveUp at he; subst he))
    exact ⟨rfl, rfl, gb_trans (B1.out.alloc _).gb g5⟩
  | ok y s =>
    rw [Rs.bind_ok]
    obtain ⟨R, hR⟩ : ∃ R, R = ((mustR [93] s).bind fun _ u => .ok (idxN tk.p n1 y.kids) u) := ⟨_, rfl⟩
    rw [← hR]
    have HR : Hid (R = ((mustR [93] s).bind fun _ u => .ok (idxN tk.p n1 y.kids) u)) := hR
    clear hR
    go_enter Tryd.func86, Tryd.ntmps86
    go_wp2_with (first
      | (go_at_call 76; refine (BY.out _ ((H.out.alloc _).alloc _)).mono ?_; rintro e w1 ⟨rfl, s1⟩; have hs1 := s1.size; simp at hs1; have B1 : Hid (St w w1 b g cap L (i + 1) (o + 1)) := (((St.refl H.out).alloc _).alloc _).next s1; have r1 : rowAt w1 w.heap.size = some c.cells := (s1.row (by simp; omega) (by omega)).trans ((rowAt_old _ _ _ (by simp)).trans (rowAt_at _ _ _ _ _ rfl)); have m1 : roomAt w1 (w.heap.size + 1) 6 = true := (s1.room (by simp) (by omega) 6).trans (roomNd_new _ _ _ _ (by simp)))
      | (go_at_call 33; refine (RO.out _ (B1.out.alloc _).rd).mono ?_; rintro e w5 ⟨g4, m4', i4, rfl, ht4, hi4, s4, kd4, hg4, hgn, cs, rw4, h0, hm⟩))
    have z5 := s4.size
    simp at z5 hgn
    have S5 : St w w5 b g cap L i4 (o + 1) := (B1.out.alloc _).next s4
    have I0 : Ix w w5 b g cap L i4 (o + 1) P tk.p n1 y.kids cs g4 w1.heap.size 0 c := {
      st := S5
      row := (s4.row (by simp) (by omega)).trans (rowAt_at _ _ _ _ _ rfl)
      room := (s4.room (by simp) (by omega) 6).trans (roomNd_new _ _ _ _ rfl)
      res := (s4.room (by simp; omega) (by omega) 6).trans ((roomAt_old _ _ _ _ (by omega)).trans m1)
      nd := HC.out.keep (fun x hx hl => ⟨hx, by omega, by omega⟩) S5.gb.size (fun x hx hl => S5.gb.block x hl (fun e => by injection e with e; exact hP1 x hx e))
      gl := hg4
      gn := by omega
      gr := by omega
      gb := by omega
      cel := fun k h j hj => by
        have e := ndC_at cs k h j hj
        have hs : (cs[k]).cells[j]? = some ((cs[k]).cells[j]'(by rw [Nc.size]; exact hj)) := Array.getElem?_eq_getElem _
        rw [hs] at e ⊢
        have := World.ownsRow.cells rw4.own (g := g4) rfl _ _ e
        rwa [show (⟨g4, 0, none⟩ : Addr).add (k * 6 + j) = ⟨g4, k * 6 + j, none⟩ by simp [Addr.add]; omega] at this
      nds := fun k h h2 => (rw4.nds k h h2).keep (fun x hx _ => by simp at hx; exact ⟨hP2 _ (by omega), by omega, by omega⟩) (Nat.le_refl _) (fun _ _ _ => rfl)
      jl := Nat.zero_le _ }
    have hcl : cs.length = y.kids.length := rw4.len
    have HT : Hid (s = L.drop i4 ∧ i + 1 < i4) := ⟨ht4, hi4⟩
    have i4l := S5.rd.il
    clear s4 kd4 rw4 ht4 S5
    obtain ⟨len, hlen⟩ : ∃ len, len = y.kids.length := ⟨_, rfl⟩
    rw [← hlen] at hcl h0 hm ⊢
    have HL : Hid (len = y.kids.length) := hlen
    clear hlen
    go_loopg [18] len (fun gf s18 X => ∃ (j : Nat) (cn : Nc), s18 = .int .i64 (j : Int) ∧ j + gf = len ∧ Ix w X b g cap L i4 (o + 1) P tk.p n1 y.kids cs g4 w1.heap.size j cn ∧ w1.heap.size < X.heap.size)
    case atStart => exact ⟨0, c, rfl, by omega, I0, by omega⟩
    case round =>
      obtain ⟨j, cn, rfl, hj, I, hwx⟩ := hrel
      have hl' := HL.out
      by_cases hlt : j < len
      · obtain ⟨g', rfl⟩ : ∃ g', gk = g' + 1 := ⟨gk - 1, by omega⟩
        have d0 : decide ((j : Int) < (len : Int)) = true := by simp; omega
        have hb1 : (0 : Int) ≤ (j : Int) := by omega
        have hb2 : (j : Int) < (len : Int) := by omega
        have hjc : j < cs.length := by omega
        clear hl'
        have L1 : (loadNd ⟨g4, j * 6, none⟩).run Tryd.prog wr = .ok (.agg (cs[j]'hjc).cells) wr := loadNd_mid _ (I.cel j hjc)
        have rn := I.row
        have mn := I.room
        have HI : Hid (Ix w wr b g cap L i4 (o + 1) P tk.p n1 y.kids cs g4 w1.heap.size j cn) := I
        obtain ⟨cj, hcj⟩ : ∃ cj, cj = cs[j]'hjc := ⟨_, rfl⟩
        have HCJ : Hid (cj = cs[j]'hjc) := hcj
        rw [← hcj] at L1
        clear I I0 hcj
        have hne : w1.heap.size ≠ wr.heap.size := by omega
        go_wp2_with (go_at_call 59; refine (node_any _ _ _ _ _ _).mono ?_; rintro e w6 ⟨rfl, hb6⟩; have hs6 := hb6.size; simp at hs6; have m6 : roomAt w6 w1.heap.size 6 = true := (roomAt_below hb6 _ _ (by simp; omega)).trans ((roomAt_old _ _ _ _ (by simp; omega)).trans ((roomAt_old _ _ _ _ (by omega)).trans mn)))
        have hsz := HI.out.st.size
        have I2 := HI.out.next (Y := w6) (blk := wr.heap.size + 1) (by have := HL.out; omega) (by have := HL.out; omega) bl gl (by omega) (by omega) ((((Below.refl wr.heap.size wr).alloc (Nat.le_refl _) (.cells cj.cells 31)).alloc (by simp) (.cells (cn.cells ++ cj.cells) 31)).trans (hb6.mono (by simp; omega))) (by omega) hP2 (by rw [← HCJ.out]; exact (hb6.block _ (by simp)).trans (heap_new' _ _ (by simp))) hwx (by omega)
        go_roundg g'
        case measure => omega
        case rel => exact ⟨j + 1, _, by simp, by omega, I2, by rw [size_put]; omega⟩
      · have d0 : decide ((j : Int) < (len : Int)) = false := by simp; omega
        have ej : j = len := by omega
        have rn := I.row
        have mr := I.res
        have SI : Hid (St w wr b g cap L i4 (o + 1)) := I.st
        have e1 := HT.out.1
        have e2 := HT.out.2
        have ND : Hid (NdAt wr (fun x => P x ∧ x ≠ w1.heap.size ∧ x ≠ w.heap.size + 1) cn (idxN tk.p n1 y.kids)) := by
          have := I.nd
          rwa [List.take_of_length_le (by have := HL.out; omega)] at this
        clear I I0 ej hl'
        by_cases hm1 : wd s = [93]
        · have MY : Hid (Calls Tryd.prog 30 #[.pointer (some ⟨b, 0, none⟩), .string (bs [93])] wr _) := must_yes wr b g cap L i4 (o + 1) SI.out.rd [93] (by decide) (by rw [← e1]; exact hm1)
          have HRk : Hid (R = .ok (idxN tk.p n1 y.kids) (L.drop (i4 + 1))) := by
            show R = _
            rw [HR.out]; unfold mustR; rw [if_pos hm1, Rs.bind_ok, e1, List.tail_drop]
          clear hm1 e1 HR
          go_wp2_with (first
            | (go_at_call 30; refine MY.out.mono ?_; rintro e w8 ⟨rfl, s8⟩; have hs8 := s8.size; have r8 : rowAt w8 w1.heap.size = _ := (s8.row hwx (by omega)).trans rn; have m8 : roomAt w8 (w.heap.size + 1) 6 = true := (s8.room (by omega) (by omega) 6).trans mr; have A8 : Hid (St w w8 b g cap L (i4 + 1) (o + 1) ∧ NdAt w8 (fun x => P x ∧ x ≠ w1.heap.size ∧ x ≠ w.heap.size + 1) cn (idxN tk.p n1 y.kids)) := ⟨SI.out.next s8, ND.out.stepP (b := b) (fun x hx => hP1 x hx.1) s8.gb⟩)
            | (go_at_call 77; refine (end_any _ b g cap L (i4 + 1) o A8.out.1.rd).mono ?_; rintro e w9 ⟨rfl, s9⟩; have r9 : rowAt w9 w1.heap.size = _ := (s9.row (by omega) (by omega)).trans r8; have m9 : roomAt w9 (w.heap.size + 1) 6 = true := (s9.room (by omega) (by omega) 6).trans m8; have A9 : Hid (St w w9 b g cap L (i4 + 1) o ∧ NdAt w9 (fun x => P x ∧ x ≠ w1.heap.size ∧ x ≠ w.heap.size + 1) cn (idxN tk.p n1 y.kids)) := ⟨A8.out.1.next s9, A8.out.2.stepP (b := b) (fun x hx => hP1 x hx.1) s9.gb⟩))
          rw [HRk.out]
          exact ret_cell1 rfl rfl (loadNd_row (rowNd_put _ _ _ m9)) rfl ⟨_, i4 + 1, rfl, rfl, by omega, A9.out.1.old bl gl _ (by omega) _, A9.out.2.keep (fun x hx _ => hx.1) (by rw [size_put]; exact Nat.le_refl _) (fun x hx hl => put_far _ _ _ _ hx.2.2)⟩
        · have MN : Hid (Calls Tryd.prog 30 #[.pointer (some ⟨b, 0, none⟩), .string (bs [93])] wr _) := must_no wr b g cap L i4 (o + 1) SI.out.rd [93] (by rw [← e1]; exact hm1)
          have HRk : Hid (R = .bad (hd (L.drop i4)).p 90) := by
            show R = _
            rw [HR.out]; unfold mustR; rw [if_neg hm1, Rs.bind_bad, e1]
          clear hm1 e1 HR
          generalize (hd (L.drop i4)).p = pp at MN HRk
          go_wp2_with (go_at_call 30; refine MN.out.mono ?_; rintro e w8 ⟨he, g8⟩; unfold gaveUp at he; subst he)
          rw [HRk.out]
          exact ⟨rfl, rfl, gb_trans SI.out.gb g8⟩
end Go.Proofs.YtllhcjmabhempaaDoor
