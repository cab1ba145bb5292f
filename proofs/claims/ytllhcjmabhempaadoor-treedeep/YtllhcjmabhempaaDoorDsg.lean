/-
  Layer 9: designators.
-/
import Derived.Test.YtllhcjmabhempaaDoorCal
import Derived.Test.YtllhcjmabhempaaDoorIdx
namespace Go.Proofs.YtllhcjmabhempaaDoor
set_option linter.unusedVariables false
set_option linter.unusedSimpArgs false
open Go.ChangeShapes Go.WideShapes Go.ChangeAt Go.RowKit


attribute [local go_sem] fieldTk0 fieldTk3 fieldTk1 hmf
attribute [local go_sem ↓] bslNd_seal
attribute [local go_sem] bslNd1_run bslNd2_run

theorem Rs.bind_assoc {α β γ : Type} (x : Rs α) (f : α → List Tok → Rs β) (g : β → List Tok → Rs γ) : (x.bind f).bind g = x.bind fun a r => (f a r).bind g := by cases x <;> rfl
def fldR (n1 : Nd) (t : List Tok) : Rs Nd := (nameR t.tail).bind fun y s => .ok (.mk 32 y.t 0 false [n1] (hd t).p) s
theorem call_any (f : Nat) (hP : ∀ f', f' ≤ f → Pc 16 .expr f') (w : World) (b g cap : Nat) (L : List Tok) (i o : Nat) (h : RdAt w b g cap L i o) (hk : (hd (L.drop i)).k ≠ 0) (hf : (L.length - i) * 40 ≤ f + 18) (c : Nc) (P : Nat → Prop) (hP1 : ∀ x, P x → x ≠ b) (hP2 : ∀ x, w.heap.size ≤ x → P x) (n1 : Nd) (hc : NdAt w P c n1) :
    Calls Tryd.prog 87 #[.pointer (some ⟨b, 0, none⟩), .agg c.cells] w (PostP w b g cap L i o P (calR (f + 1) o n1 (L.drop i))) := by
  have hn : i + 1 < L.length := h.last i h.il (by rw [← h.hd]; exact hk)
  have hol := h.ol
  unfold calR beginR
  by_cases ho : o = 24
  · subst ho
    rw [if_pos rfl, Rs.bind_bad]
    exact call_deep w b g cap L i h c P
  · rw [if_neg ho, Rs.bind_ok, List.tail_drop]
    by_cases hw : wd (L.drop (i + 1)) = [41]
    · rw [if_pos hw, Rs.bind_ok]
      unfold mustR
      rw [if_pos hw, Rs.bind_ok, List.tail_drop]
      exact call_none w b g cap L i o h hk c P hP1 hP2 n1 hc (by omega) hw
    · rw [if_neg hw]
      exact call_some w b g cap L i o h hk c P hP1 hP2 n1 hc (by omega) hw _ (fun X hX => row_expr f hP X b g cap L (i + 1) (o + 1) [44] (by decide) hX (by omega))
theorem index_any (f : Nat) (hP : ∀ f', f' ≤ f → Pc 16 .expr f') (w : World) (b g cap : Nat) (L : List Tok) (i o : Nat) (h : RdAt w b g cap L i o) (hk : (hd (L.drop i)).k ≠ 0) (hf : (L.length - i) * 40 ≤ f + 18) (c : Nc) (P : Nat → Prop) (hP1 : ∀ x, P x → x ≠ b) (hP2 : ∀ x, w.heap.size ≤ x → P x) (n1 : Nd) (hc : NdAt w P c n1) :
    Calls Tryd.prog 86 #[.pointer (some ⟨b, 0, none⟩), .agg c.cells] w (PostP w b g cap L i o P (idxR (f + 1) o n1 (L.drop i))) := by
  have hn : i + 1 < L.length := h.last i h.il (by rw [← h.hd]; exact hk)
  have hol := h.ol
  unfold idxR beginR
  by_cases ho : o = 24
  · subst ho
    rw [if_pos rfl, Rs.bind_bad]
    exact index_deep w b g cap L i h c P
  · rw [if_neg ho, Rs.bind_ok, List.tail_drop]
    exact index_some w b g cap L i o h hk c P hP1 hP2 n1 hc (by omega) _ (fun X hX => row_expr f hP X b g cap L (i + 1) (o + 1) [44] (by decide) hX (by omega))
theorem desig_eq (f o : Nat) (l : Nd) (t : List Tok) : run (f + 1) (.desigL l) o t =
    if wd t = [46] then (fldR l t).bind fun n s => run f (.desigL n) o s
    else if wd t = [91] then (idxR f o l t).bind fun n s => run f (.desigL n) o s
    else if wd t = [94] then run f (.desigL (.mk 34 [] 0 false [l] (hd t).p)) o t.tail
    else if wd t = [40] then (calR f o l t).bind fun n s => run f (.desigL n) o s
    else .ok l t := by
  rw [run]
  unfold fldR idxR calR
  simp only [Rs.bind_assoc, Rs.bind_ok]
/-- The loop's state. -/
def Lpd (w X : World) (b g cap : Nat) (L : List Tok) (i o q : Nat) (R : Rs Nd) (f i1 : Nat) : Prop := ∃ l c f1, f1 ≤ f ∧ run f1 (.desigL l) o (L.drop i1) = R ∧ (L.length - i1) * 40 + 4 ≤ f1 ∧ i < i1 ∧ rowAt X q = some (Nc.cells c) ∧ roomAt X q 6 = true ∧ roomAt X w.heap.size 6 = true ∧ St w X b g cap L i1 o ∧ NdAt X (fun x => w.heap.size + 1 ≤ x ∧ x ≠ q) c l
set_option maxHeartbeats 4000000 in
set_option maxRecDepth 20000 in
theorem desig_step (f : Nat) (hT : ∀ f', f' ≤ f → Pc 16 .expr f') : Pc 81 .desig (f + 1) := by
  intro w b g cap L i o h hf
  have bl := h.bl
  have gl := h.gl
  have hil := h.il
  have H : Hid (RdAt w b g cap L i o) := h
  have hf0 : (L.length - i) * 40 + 10 ≤ f + 1 := hf
  have HT : Hid (∀ f', f' ≤ f → Pc 16 .expr f') := hT
  rw [run]
  unfold nameR
  by_cases hn : (hd (L.drop i)).k = 1
  · rw [if_pos hn, Rs.bind_ok, List.tail_drop]
    have NM : Hid (∀ X, RdAt X b g cap L i o → Calls Tryd.prog 31 #[.pointer (some ⟨b, 0, none⟩), .int .i64 31] X _) := fun X hX => named_yes X b g cap L i o hX hn 31
    clear hT h hf hn
    generalize hd (L.drop i) = t0 at NM ⊢
    generalize hR : run f (.desigL (.mk 31 t0.t 0 false [] t0.p)) o (L.drop (i + 1)) = R
    have HR0 : Hid (run f (.desigL (.mk 31 t0.t 0 false [] t0.p)) o (L.drop (i + 1)) = R) := hR
    clear hR
    go_enter Tryd.func81, Tryd.ntmps81
    go_wp2_with (go_at_call 31; refine (NM.out _ (H.out.alloc _)).mono ?_; rintro e w1 ⟨c1, i1, rfl, ht1, hi1, s1, nd1⟩)
    have hs1 := s1.size
    simp at hs1
    have e1 : i1 = i + 1 ∨ L.drop (i + 1) = L.drop i1 := .inr ht1
    have LP : Lpd w (w1.alloc (.cells c1.cells 31)) b g cap L i o w1.heap.size R f i1 :=
      ⟨_, c1, f, Nat.le_refl _, by rw [← ht1]; exact HR0.out, by have := s1.rd.il; omega, hi1, rowAt_at _ _ _ _ _ rfl, roomNd_new _ _ _ _ rfl, (roomAt_old _ _ _ _ (by omega)).trans ((s1.room (by simp) (by omega) 6).trans (roomNd_new _ _ _ _ (by simp))), (((St.refl H.out).alloc _).next s1).alloc _, nd1.keep (fun x hx hl => ⟨by simpa using hx, by omega⟩) (by simp) (fun x hx hl => ((Below.refl _ _).alloc (Nat.le_refl _) _).block x hl)⟩
    have q1 : w.heap.size < w1.heap.size := by omega
    clear NM s1 nd1 ht1 HR0 e1
    generalize w1.heap.size = q at LP q1 ⊢
    go_loopg [] (L.length + 1) (fun gf X => ∃ j, Lpd w X b g cap L i o q R f j ∧ L.length + 1 ≤ j + gf)
    case atStart => exact ⟨i1, LP, by omega⟩
    case round =>
      obtain ⟨j, ⟨l, c, f1, hf1, hrun, hfu, hij, r3, m3, m2, SJ, nd⟩, hg⟩ := hrel
      have hjl := SJ.rd.il
      obtain ⟨g', rfl⟩ : ∃ g', gk = g' + 1 := ⟨gk - 1, by omega⟩
      obtain ⟨f2, rfl⟩ : ∃ f2, f1 = f2 + 1 := ⟨f1 - 1, by omega⟩
      obtain ⟨f3, hf3⟩ : ∃ f3, f2 = f3 + 1 := ⟨f2 - 1, by omega⟩
      have hs := SJ.size
      have hql := row_lt r3
      have WA := word_any wr b g cap L j o SJ.rd
      have rowN : ∀ w2, Below wr.heap.size wr w2 → rowAt w2 q = some c.cells ∧ roomAt w2 q 6 = true ∧ roomAt w2 w.heap.size 6 = true ∧ St w w2 b g cap L j o ∧ NdAt w2 (fun x => w.heap.size + 1 ≤ x ∧ x ≠ q) c l := fun w2 hb2 =>
        ⟨(rowAt_below hb2 _ hql).trans r3, (roomAt_below hb2 _ _ hql).trans m3, (roomAt_below hb2 _ _ (by omega)).trans m2, SJ.below hb2, nd.stepP (b := b) (fun x hx => by omega) (gb_of_below hb2 b)⟩
      have HN : Hid (∀ w2, Below wr.heap.size wr w2 → rowAt w2 q = some c.cells ∧ roomAt w2 q 6 = true ∧ roomAt w2 w.heap.size 6 = true ∧ St w w2 b g cap L j o ∧ NdAt w2 (fun x => w.heap.size + 1 ≤ x ∧ x ≠ q) c l) := rowN
      rw [desig_eq] at hrun
      clear rowN SJ nd LP
      have k := rk (wd (L.drop j))
      by_cases h1 : wd (L.drop j) = [46]
      · have d1 : decide (wd (L.drop j) = [46]) = true := by simpa using h1
        have hk0 : (hd (L.drop j)).k ≠ 0 := wd_kind (by rw [h1]; decide)
        rw [if_pos h1] at hrun
        have FC : Hid (∀ X (cX : Nc), RdAt X b g cap L j o → q < X.heap.size → w.heap.size < X.heap.size → NdAt X (fun x => w.heap.size + 1 ≤ x ∧ x ≠ q) c l → Calls Tryd.prog 85 #[.pointer (some ⟨b, 0, none⟩), .agg c.cells] X (PostP X b g cap L j o (fun x => w.heap.size + 1 ≤ x ∧ x ≠ q) (fldR l (L.drop j)))) := fun X cX hX hq hw hn => by have := field_any X b g cap L j o hX hk0 c (fun x => w.heap.size + 1 ≤ x ∧ x ≠ q) (fun x hx => by omega) (fun x hx => by omega) l hn; unfold fldR; rw [List.tail_drop]; exact this
        generalize fldR l (L.drop j) = Rb at FC hrun
        clear hk0 h1
        cases Rb with
        | bad p er =>
          rw [Rs.bind_bad] at hrun
          have HR : Hid (R = .bad p er) := hrun.symm
          clear hrun
          go_wp2_with (first
            | (go_at_call 39; refine WA.mono ?_; rintro e w2 ⟨rfl, hb2⟩; have hs2 := hb2.size; obtain ⟨r2, m2', m22, S2, nd2⟩ := HN.out w2 hb2; have B2 : Hid (St w w2 b g cap L j o ∧ NdAt w2 (fun x => w.heap.size + 1 ≤ x ∧ x ≠ q) c l) := ⟨S2, nd2⟩; clear S2 nd2)
            | (go_at_call 85; refine (FC.out w2 c B2.out.1.rd (by omega) (by omega) B2.out.2).mono ?_; rintro e w5 ⟨he, g5⟩; unfold gaveUp at he; subst he))
          rw [HR.out]
          exact ⟨rfl, rfl, gb_trans B2.out.1.gb g5⟩
        | ok n t =>
          rw [Rs.bind_ok] at hrun
          have HR : Hid (run f2 (.desigL n) o t = R) := hrun
          clear hrun
          go_wp2_with (first
            | (go_at_call 39; refine WA.mono ?_; rintro e w2 ⟨rfl, hb2⟩; have hs2 := hb2.size; obtain ⟨r2, m2', m22, S2, nd2⟩ := HN.out w2 hb2; have B2 : Hid (St w w2 b g cap L j o ∧ NdAt w2 (fun x => w.heap.size + 1 ≤ x ∧ x ≠ q) c l) := ⟨S2, nd2⟩; clear S2 nd2)
            | (go_at_call 85; refine (FC.out w2 c B2.out.1.rd (by omega) (by omega) B2.out.2).mono ?_; rintro e w5 ⟨c5, i5, rfl, ht5, hi5, s5, nd5⟩; have m5 : roomAt w5 q 6 = true := (s5.room (by omega) (by omega) 6).trans m2'; have m52 : roomAt w5 w.heap.size 6 = true := (s5.room (by omega) (by omega) 6).trans m22))
          have LN : Lpd w (putRow w5 q c5.cells) b g cap L i o q R f i5 :=
            ⟨n, c5, f2, by omega, by rw [← ht5]; exact HR.out, by omega, by omega, rowNd_put _ _ _ m5, room_keep m5 _ rfl, (room_far _ _ _ _ _ (by omega)).trans m52, (B2.out.1.next s5).old bl gl _ (by omega) _, nd5.keep (fun x hx _ => hx) (by rw [size_put]; exact Nat.le_refl _) (fun x hx _ => put_far _ _ _ _ hx.2)⟩
          go_roundg g'
          case measure => omega
          case rel => exact ⟨i5, LN, by omega⟩
      · have d1 : decide (wd (L.drop j) = [46]) = false := by simpa using h1
        by_cases h2 : wd (L.drop j) = [91]
        · have d2 : decide (wd (L.drop j) = [91]) = true := by simpa using h2
          have hk0 : (hd (L.drop j)).k ≠ 0 := wd_kind (by rw [h2]; decide)
          rw [if_neg h1, if_pos h2] at hrun
          have FC : Hid (∀ X (cX : Nc), RdAt X b g cap L j o → q < X.heap.size → w.heap.size < X.heap.size → NdAt X (fun x => w.heap.size + 1 ≤ x ∧ x ≠ q) c l → Calls Tryd.prog 86 #[.pointer (some ⟨b, 0, none⟩), .agg c.cells] X (PostP X b g cap L j o (fun x => w.heap.size + 1 ≤ x ∧ x ≠ q) (idxR f2 o l (L.drop j)))) := fun X cX hX hq hw hn => by have := index_any f3 (fun f' h' => HT.out f' (by omega)) X b g cap L j o hX hk0 (by omega) c (fun x => w.heap.size + 1 ≤ x ∧ x ≠ q) (fun x hx => by omega) (fun x hx => by omega) l hn; rw [hf3]; exact this
          generalize idxR f2 o l (L.drop j) = Rb at FC hrun
          clear hk0 h2
          cases Rb with
          | bad p er =>
            rw [Rs.bind_bad] at hrun
            have HR : Hid (R = .bad p er) := hrun.symm
            clear hrun
            go_wp2_with (first
              | (go_at_call 39; refine WA.mono ?_; rintro e w2 ⟨rfl, hb2⟩; have hs2 := hb2.size; obtain ⟨r2, m2', m22, S2, nd2⟩ := HN.out w2 hb2; have B2 : Hid (St w w2 b g cap L j o ∧ NdAt w2 (fun x => w.heap.size + 1 ≤ x ∧ x ≠ q) c l) := ⟨S2, nd2⟩; clear S2 nd2)
              | (go_at_call 86; refine (FC.out w2 c B2.out.1.rd (by omega) (by omega) B2.out.2).mono ?_; rintro e w5 ⟨he, g5⟩; unfold gaveUp at he; subst he))
            rw [HR.out]
            exact ⟨rfl, rfl, gb_trans B2.out.1.gb g5⟩
          | ok n t =>
            rw [Rs.bind_ok] at hrun
            have HR : Hid (run f2 (.desigL n) o t = R) := hrun
            clear hrun
            go_wp2_with (first
              | (go_at_call 39; refine WA.mono ?_; rintro e w2 ⟨rfl, hb2⟩; have hs2 := hb2.size; obtain ⟨r2, m2', m22, S2, nd2⟩ := HN.out w2 hb2; have B2 : Hid (St w w2 b g cap L j o ∧ NdAt w2 (fun x => w.heap.size + 1 ≤ x ∧ x ≠ q) c l) := ⟨S2, nd2⟩; clear S2 nd2)
              | (go_at_call 86; refine (FC.out w2 c B2.out.1.rd (by omega) (by omega) B2.out.2).mono ?_; rintro e w5 ⟨c5, i5, rfl, ht5, hi5, s5, nd5⟩; have m5 : roomAt w5 q 6 = true := (s5.room (by omega) (by omega) 6).trans m2'; have m52 : roomAt w5 w.heap.size 6 = true := (s5.room (by omega) (by omega) 6).trans m22))
            have LN : Lpd w (putRow w5 q c5.cells) b g cap L i o q R f i5 :=
              ⟨n, c5, f2, by omega, by rw [← ht5]; exact HR.out, by omega, by omega, rowNd_put _ _ _ m5, room_keep m5 _ rfl, (room_far _ _ _ _ _ (by omega)).trans m52, (B2.out.1.next s5).old bl gl _ (by omega) _, nd5.keep (fun x hx _ => hx) (by rw [size_put]; exact Nat.le_refl _) (fun x hx _ => put_far _ _ _ _ hx.2)⟩
            go_roundg g'
            case measure => omega
            case rel => exact ⟨i5, LN, by omega⟩
        · have d2 : decide (wd (L.drop j) = [91]) = false := by simpa using h2
          by_cases h3 : wd (L.drop j) = [94]
          · have d3 : decide (wd (L.drop j) = [94]) = true := by simpa using h3
            have hk0 : (hd (L.drop j)).k ≠ 0 := wd_kind (by rw [h3]; decide)
            rw [if_neg h1, if_neg h2, if_pos h3] at hrun
            rw [List.tail_drop] at hrun
            have PA : Hid (∀ X, RdAt X b g cap L j o → Calls Tryd.prog 52 #[.pointer (some ⟨b, 0, none⟩)] X _) := fun X hX => pass_any X b g cap L j o hX hk0
            generalize hd (L.drop j) = tk at PA hrun
            have HR : Hid (run f2 (.desigL (.mk 34 [] 0 false [l] tk.p)) o (L.drop (j + 1)) = R) := hrun
            clear hrun hk0 h3
            go_upto_region 9 with ((go_at_call 39; refine WA.mono ?_; rintro e w2 ⟨rfl, hb2⟩; have hs2 := hb2.size; obtain ⟨r2, m2', m22, S2, nd2⟩ := HN.out w2 hb2; have B2 : Hid (St w w2 b g cap L j o ∧ NdAt w2 (fun x => w.heap.size + 1 ≤ x ∧ x ≠ q) c l) := ⟨S2, nd2⟩; clear S2 nd2))
            have H2 : rowAt w2.drew q = some c.cells := (rowAt_drew _ _).trans r2
            have S2d := B2.out.1.drew
            have ND2 : Hid (NdAt w2.drew (fun x => w.heap.size + 1 ≤ x ∧ x ≠ q) c l) := NdAt.stepP (b := b) B2.out.2 (fun x hx => by omega) (gb_of_below (Below.refl _ _).drew b)
            refine wp_region_held_drew (S := (fun _ => True)) (by kernel_rfl) trivial (fun hHeld => ?_)
            refine wpAnyH_take (i := 0) (v := ?_) rfl (by kernel_rfl) (by kernel_rfl) (by kernel_rfl) (fun _ _ _ h => h) (Or.inl ⟨by rfl, ?y0⟩) trivial ?r0
            case y0 => (intro w2 hSw; go_simp; try rfl)
            simp only [Act.put, List.setIfInBounds_toArray, List.set_cons_zero, List.set_cons_succ]
            refine wpAnyH_ready (rs := [1, 3]) (by kernel_rfl) (by simp) ?_
            refine .cons rfl (fun K hK => ?_) (.cons rfl (fun K hK => ?_) .nil)
            · go_simp
              go_wp2_with (go_at_call 52; refine (PA.out _ S2d.rd).mono ?_; rintro e w5 ⟨rfl, s5⟩)
              have g1 : (w2.drew).grownBy (w5) (some b) := s5.gb
              have zg1 := g1.size
              (try simp at zg1)
              have hh2 := hold1_gb H2 g1 (by omega)
              refine hK.out _ _ trivial (fun _ => ?_)
              clear hK K
              have S3 := S2d.next s5
              refine wpAnyH_take (i := 2) (v := ?_) rfl (by kernel_rfl) (by kernel_rfl) (by kernel_rfl) (fun _ _ _ h => h) (Or.inl ⟨by rfl, ?yk4⟩) trivial ?rk4
              case yk4 => (intro w2 hSw; go_simp; try rfl)
              simp only [Act.put, List.setIfInBounds_toArray, List.set_cons_zero, List.set_cons_succ]
              refine wpAnyH_ready (rs := [3]) (by kernel_rfl) (by simp) ?_
              refine .cons rfl (fun K hK => ?_) .nil
              go_simp
              refine hK.out _ _ trivial (fun _ => ?_)
              clear hK K
              refine wpAnyH_ready (rs := [4]) (by kernel_rfl) (by simp) ?_
              refine .cons rfl (fun K hK => ?_) .nil
              go_simp
              have g5 : (w5).grownBy ((w5).alloc (.cells c.cells 31)) (some b) := gb_of_below (by go_grown) b
              have zg5 := g5.size
              (try simp at zg5)
              have hh6 := hold1_gb hh2 g5 (by omega)
              refine hK.out _ _ trivial (fun _ => ?_)
              clear hK K
              have S7 := S3.alloc (.cells c.cells 31)
              refine wpAnyH_ready (rs := [5]) (by kernel_rfl) (by simp) ?_
              refine .cons rfl (fun K hK => ?_) .nil
              go_simp
              go_wp2_with (go_at_call 59; refine (node_any _ _ _ _ _ _).mono ?_; rintro e w6 ⟨rfl, hb6⟩)
              have g8 : ((w5).alloc (.cells c.cells 31)).grownBy (w6) (some b) := gb_of_below hb6 b
              have zg8 := g8.size
              (try simp at zg8)
              have hh9 := hold1_gb hh6 g8 (by omega)
              refine hK.out _ _ trivial (fun _ => ?_)
              clear hK K
              have S10 := S7.below hb6
              refine wpAnyH_ready (rs := [6]) (by kernel_rfl) (by simp) ?_
              refine .cons rfl (fun K hK => ?_) .nil
              have m5 : roomAt (w6) q 6 = true := (room_gb (gb_trans (gb_trans g1 g5) g8) (by first | omega | (simp; done) | (simp; omega)) (by omega) 6).trans ((roomAt_drew _ _ _).trans m2')
              have m52 : roomAt (w6) w.heap.size 6 = true := (room_gb (gb_trans (gb_trans g1 g5) g8) (by first | omega | (simp; done) | (simp; omega)) (by omega) 6).trans ((roomAt_drew _ _ _).trans m22)
              have nb : w.heap.size + 1 ≤ w5.heap.size := (by first | omega | (simp; done) | (simp; omega))
              have dq : w5.heap.size ≠ q := (by first | omega | (simp; done) | (simp; omega))
              have mb : (putRow (w6) q (⟨34, ⟨#[]⟩, 0, false, some ⟨w5.heap.size, 0, none⟩, 1, 1, (tk.p : Int)⟩ : Nc).cells).heap[w5.heap.size]? = some (.cells c.cells 31 (0, 0)) := (put_far _ _ _ _ dq).trans (((g8).block (w5.heap.size) (by first | omega | (simp; done) | (simp; omega)) (by intro e; injection e with e; first | omega | (simp at e; omega))).trans (heap_new' _ _ (by simp)))
              have LN : Lpd w (putRow (w6) q (⟨34, ⟨#[]⟩, 0, false, some ⟨w5.heap.size, 0, none⟩, 1, 1, (tk.p : Int)⟩ : Nc).cells) b g cap L i o q R f (j + 1) := ⟨.mk 34 [] 0 false [l] tk.p, (⟨34, ⟨#[]⟩, 0, false, some ⟨w5.heap.size, 0, none⟩, 1, 1, (tk.p : Int)⟩ : Nc), f2, by omega, HR.out, by omega, by omega, rowNd_put _ _ _ m5, room_keep m5 _ rfl, (room_far _ _ _ _ _ (by omega)).trans m52, S10.old bl gl _ (by omega) _, one_made 34 [] tk.p ⟨nb, dq⟩ mb (ND2.out.keep (fun x hx _ => hx) (by rw [size_put]; exact ((gb_trans (gb_trans g1 g5) g8)).size) (fun x hx hl => (put_far _ _ _ _ hx.2).trans (((gb_trans (gb_trans g1 g5) g8)).block x hl (fun e => by injection e with e; omega))))⟩
              have HLN : Hid (Lpd w (putRow (w6) q (⟨34, ⟨#[]⟩, 0, false, some ⟨w5.heap.size, 0, none⟩, 1, 1, (tk.p : Int)⟩ : Nc).cells) b g cap L i o q R f (j + 1)) := LN
              clear LN mb g1 g5 g8 S10 s5
              go_simp
              refine hK.out _ _ trivial (fun _ => ?_)
              clear hK K
              refine wpAnyH_done (by kernel_rfl) ?_ _
              go_wp2_with fail
              go_roundg g'
              case measure => omega
              case rel => exact ⟨j + 1, HLN.out, by omega⟩
            · go_simp
              refine hK.out _ _ trivial (fun _ => ?_)
              clear hK K
              refine wpAnyH_ready (rs := [1, 4]) (by kernel_rfl) (by simp) ?_
              refine .cons rfl (fun K hK => ?_) (.cons rfl (fun K hK => ?_) .nil)
              · go_simp
                go_wp2_with (go_at_call 52; refine (PA.out _ S2d.rd).mono ?_; rintro e w5 ⟨rfl, s5⟩)
                have g11 : (w2.drew).grownBy (w5) (some b) := s5.gb
                have zg11 := g11.size
                (try simp at zg11)
                have hh12 := hold1_gb H2 g11 (by omega)
                refine hK.out _ _ trivial (fun _ => ?_)
                clear hK K
                have S13 := S2d.next s5
                refine wpAnyH_take (i := 2) (v := ?_) rfl (by kernel_rfl) (by kernel_rfl) (by kernel_rfl) (fun _ _ _ h => h) (Or.inl ⟨by rfl, ?yk14⟩) trivial ?rk14
                case yk14 => (intro w2 hSw; go_simp; try rfl)
                simp only [Act.put, List.setIfInBounds_toArray, List.set_cons_zero, List.set_cons_succ]
                refine wpAnyH_ready (rs := [4]) (by kernel_rfl) (by simp) ?_
                refine .cons rfl (fun K hK => ?_) .nil
                go_simp
                have g15 : (w5).grownBy ((w5).alloc (.cells c.cells 31)) (some b) := gb_of_below (by go_grown) b
                have zg15 := g15.size
                (try simp at zg15)
                have hh16 := hold1_gb hh12 g15 (by omega)
                refine hK.out _ _ trivial (fun _ => ?_)
                clear hK K
                have S17 := S13.alloc (.cells c.cells 31)
                refine wpAnyH_ready (rs := [5]) (by kernel_rfl) (by simp) ?_
                refine .cons rfl (fun K hK => ?_) .nil
                go_simp
                go_wp2_with (go_at_call 59; refine (node_any _ _ _ _ _ _).mono ?_; rintro e w6 ⟨rfl, hb6⟩)
                have g18 : ((w5).alloc (.cells c.cells 31)).grownBy (w6) (some b) := gb_of_below hb6 b
                have zg18 := g18.size
                (try simp at zg18)
                have hh19 := hold1_gb hh16 g18 (by omega)
                refine hK.out _ _ trivial (fun _ => ?_)
                clear hK K
                have S20 := S17.below hb6
                refine wpAnyH_ready (rs := [6]) (by kernel_rfl) (by simp) ?_
                refine .cons rfl (fun K hK => ?_) .nil
                have m5 : roomAt (w6) q 6 = true := (room_gb (gb_trans (gb_trans g11 g15) g18) (by first | omega | (simp; done) | (simp; omega)) (by omega) 6).trans ((roomAt_drew _ _ _).trans m2')
                have m52 : roomAt (w6) w.heap.size 6 = true := (room_gb (gb_trans (gb_trans g11 g15) g18) (by first | omega | (simp; done) | (simp; omega)) (by omega) 6).trans ((roomAt_drew _ _ _).trans m22)
                have nb : w.heap.size + 1 ≤ w5.heap.size := (by first | omega | (simp; done) | (simp; omega))
                have dq : w5.heap.size ≠ q := (by first | omega | (simp; done) | (simp; omega))
                have mb : (putRow (w6) q (⟨34, ⟨#[]⟩, 0, false, some ⟨w5.heap.size, 0, none⟩, 1, 1, (tk.p : Int)⟩ : Nc).cells).heap[w5.heap.size]? = some (.cells c.cells 31 (0, 0)) := (put_far _ _ _ _ dq).trans (((g18).block (w5.heap.size) (by first | omega | (simp; done) | (simp; omega)) (by intro e; injection e with e; first | omega | (simp at e; omega))).trans (heap_new' _ _ (by simp)))
                have LN : Lpd w (putRow (w6) q (⟨34, ⟨#[]⟩, 0, false, some ⟨w5.heap.size, 0, none⟩, 1, 1, (tk.p : Int)⟩ : Nc).cells) b g cap L i o q R f (j + 1) := ⟨.mk 34 [] 0 false [l] tk.p, (⟨34, ⟨#[]⟩, 0, false, some ⟨w5.heap.size, 0, none⟩, 1, 1, (tk.p : Int)⟩ : Nc), f2, by omega, HR.out, by omega, by omega, rowNd_put _ _ _ m5, room_keep m5 _ rfl, (room_far _ _ _ _ _ (by omega)).trans m52, S20.old bl gl _ (by omega) _, one_made 34 [] tk.p ⟨nb, dq⟩ mb (ND2.out.keep (fun x hx _ => hx) (by rw [size_put]; exact ((gb_trans (gb_trans g11 g15) g18)).size) (fun x hx hl => (put_far _ _ _ _ hx.2).trans (((gb_trans (gb_trans g11 g15) g18)).block x hl (fun e => by injection e with e; omega))))⟩
                have HLN : Hid (Lpd w (putRow (w6) q (⟨34, ⟨#[]⟩, 0, false, some ⟨w5.heap.size, 0, none⟩, 1, 1, (tk.p : Int)⟩ : Nc).cells) b g cap L i o q R f (j + 1)) := LN
                clear LN mb g11 g15 g18 S20 s5
                go_simp
                refine hK.out _ _ trivial (fun _ => ?_)
                clear hK K
                refine wpAnyH_done (by kernel_rfl) ?_ _
                go_wp2_with fail
                go_roundg g'
                case measure => omega
                case rel => exact ⟨j + 1, HLN.out, by omega⟩
              · go_simp
                have g21 : (w2.drew).grownBy ((w2.drew).alloc (.cells c.cells 31)) (some b) := gb_of_below (by go_grown) b
                have zg21 := g21.size
                (try simp at zg21)
                have hh22 := hold1_gb H2 g21 (by omega)
                refine hK.out _ _ trivial (fun _ => ?_)
                clear hK K
                have S23 := S2d.alloc (.cells c.cells 31)
                refine wpAnyH_ready (rs := [1]) (by kernel_rfl) (by simp) ?_
                refine .cons rfl (fun K hK => ?_) .nil
                go_simp
                go_wp2_with (go_at_call 52; refine (PA.out _ S23.rd).mono ?_; rintro e w5 ⟨rfl, s5⟩)
                have g24 : ((w2.drew).alloc (.cells c.cells 31)).grownBy (w5) (some b) := s5.gb
                have zg24 := g24.size
                (try simp at zg24)
                have hh25 := hold1_gb hh22 g24 (by omega)
                refine hK.out _ _ trivial (fun _ => ?_)
                clear hK K
                have S26 := S23.next s5
                refine wpAnyH_take (i := 2) (v := ?_) rfl (by kernel_rfl) (by kernel_rfl) (by kernel_rfl) (fun _ _ _ h => h) (Or.inl ⟨by rfl, ?yk27⟩) trivial ?rk27
                case yk27 => (intro w2 hSw; go_simp; try rfl)
                simp only [Act.put, List.setIfInBounds_toArray, List.set_cons_zero, List.set_cons_succ]
                refine wpAnyH_ready (rs := [5]) (by kernel_rfl) (by simp) ?_
                refine .cons rfl (fun K hK => ?_) .nil
                go_simp
                go_wp2_with (go_at_call 59; refine (node_any _ _ _ _ _ _).mono ?_; rintro e w6 ⟨rfl, hb6⟩)
                have g28 : (w5).grownBy (w6) (some b) := gb_of_below hb6 b
                have zg28 := g28.size
                (try simp at zg28)
                have hh29 := hold1_gb hh25 g28 (by omega)
                refine hK.out _ _ trivial (fun _ => ?_)
                clear hK K
                have S30 := S26.below hb6
                refine wpAnyH_ready (rs := [6]) (by kernel_rfl) (by simp) ?_
                refine .cons rfl (fun K hK => ?_) .nil
                have m5 : roomAt (w6) q 6 = true := (room_gb (gb_trans (gb_trans g21 g24) g28) (by first | omega | (simp; done) | (simp; omega)) (by omega) 6).trans ((roomAt_drew _ _ _).trans m2')
                have m52 : roomAt (w6) w.heap.size 6 = true := (room_gb (gb_trans (gb_trans g21 g24) g28) (by first | omega | (simp; done) | (simp; omega)) (by omega) 6).trans ((roomAt_drew _ _ _).trans m22)
                have nb : w.heap.size + 1 ≤ w2.heap.size := (by first | omega | (simp; done) | (simp; omega))
                have dq : w2.heap.size ≠ q := (by first | omega | (simp; done) | (simp; omega))
                have mb : (putRow (w6) q (⟨34, ⟨#[]⟩, 0, false, some ⟨w2.heap.size, 0, none⟩, 1, 1, (tk.p : Int)⟩ : Nc).cells).heap[w2.heap.size]? = some (.cells c.cells 31 (0, 0)) := (put_far _ _ _ _ dq).trans ((((gb_trans g24 g28)).block (w2.heap.size) (by first | omega | (simp; done) | (simp; omega)) (by intro e; injection e with e; first | omega | (simp at e; omega))).trans (heap_new' _ _ (by simp)))
                have LN : Lpd w (putRow (w6) q (⟨34, ⟨#[]⟩, 0, false, some ⟨w2.heap.size, 0, none⟩, 1, 1, (tk.p : Int)⟩ : Nc).cells) b g cap L i o q R f (j + 1) := ⟨.mk 34 [] 0 false [l] tk.p, (⟨34, ⟨#[]⟩, 0, false, some ⟨w2.heap.size, 0, none⟩, 1, 1, (tk.p : Int)⟩ : Nc), f2, by omega, HR.out, by omega, by omega, rowNd_put _ _ _ m5, room_keep m5 _ rfl, (room_far _ _ _ _ _ (by omega)).trans m52, S30.old bl gl _ (by omega) _, one_made 34 [] tk.p ⟨nb, dq⟩ mb (ND2.out.keep (fun x hx _ => hx) (by rw [size_put]; exact ((gb_trans (gb_trans g21 g24) g28)).size) (fun x hx hl => (put_far _ _ _ _ hx.2).trans (((gb_trans (gb_trans g21 g24) g28)).block x hl (fun e => by injection e with e; omega))))⟩
                have HLN : Hid (Lpd w (putRow (w6) q (⟨34, ⟨#[]⟩, 0, false, some ⟨w2.heap.size, 0, none⟩, 1, 1, (tk.p : Int)⟩ : Nc).cells) b g cap L i o q R f (j + 1)) := LN
                clear LN mb g21 g24 g28 S30 s5
                go_simp
                refine hK.out _ _ trivial (fun _ => ?_)
                clear hK K
                refine wpAnyH_done (by kernel_rfl) ?_ _
                go_wp2_with fail
                go_roundg g'
                case measure => omega
                case rel => exact ⟨j + 1, HLN.out, by omega⟩
          · have d3 : decide (wd (L.drop j) = [94]) = false := by simpa using h3
            by_cases h4 : wd (L.drop j) = [40]
            · have d4 : decide (wd (L.drop j) = [40]) = true := by simpa using h4
              have hk0 : (hd (L.drop j)).k ≠ 0 := wd_kind (by rw [h4]; decide)
              rw [if_neg h1, if_neg h2, if_neg h3, if_pos h4] at hrun
              have FC : Hid (∀ X (cX : Nc), RdAt X b g cap L j o → q < X.heap.size → w.heap.size < X.heap.size → NdAt X (fun x => w.heap.size + 1 ≤ x ∧ x ≠ q) c l → Calls Tryd.prog 87 #[.pointer (some ⟨b, 0, none⟩), .agg c.cells] X (PostP X b g cap L j o (fun x => w.heap.size + 1 ≤ x ∧ x ≠ q) (calR f2 o l (L.drop j)))) := fun X cX hX hq hw hn => by have := call_any f3 (fun f' h' => HT.out f' (by omega)) X b g cap L j o hX hk0 (by omega) c (fun x => w.heap.size + 1 ≤ x ∧ x ≠ q) (fun x hx => by omega) (fun x hx => by omega) l hn; rw [hf3]; exact this
              generalize calR f2 o l (L.drop j) = Rb at FC hrun
              clear hk0 h4
              cases Rb with
              | bad p er =>
                rw [Rs.bind_bad] at hrun
                have HR : Hid (R = .bad p er) := hrun.symm
                clear hrun
                go_wp2_with (first
                  | (go_at_call 39; refine WA.mono ?_; rintro e w2 ⟨rfl, hb2⟩; have hs2 := hb2.size; obtain ⟨r2, m2', m22, S2, nd2⟩ := HN.out w2 hb2; have B2 : Hid (St w w2 b g cap L j o ∧ NdAt w2 (fun x => w.heap.size + 1 ≤ x ∧ x ≠ q) c l) := ⟨S2, nd2⟩; clear S2 nd2)
                  | (go_at_call 87; refine (FC.out w2 c B2.out.1.rd (by omega) (by omega) B2.out.2).mono ?_; rintro e w5 ⟨he, g5⟩; unfold gaveUp at he; subst he))
                rw [HR.out]
                exact ⟨rfl, rfl, gb_trans B2.out.1.gb g5⟩
              | ok n t =>
                rw [Rs.bind_ok] at hrun
                have HR : Hid (run f2 (.desigL n) o t = R) := hrun
                clear hrun
                go_wp2_with (first
                  | (go_at_call 39; refine WA.mono ?_; rintro e w2 ⟨rfl, hb2⟩; have hs2 := hb2.size; obtain ⟨r2, m2', m22, S2, nd2⟩ := HN.out w2 hb2; have B2 : Hid (St w w2 b g cap L j o ∧ NdAt w2 (fun x => w.heap.size + 1 ≤ x ∧ x ≠ q) c l) := ⟨S2, nd2⟩; clear S2 nd2)
                  | (go_at_call 87; refine (FC.out w2 c B2.out.1.rd (by omega) (by omega) B2.out.2).mono ?_; rintro e w5 ⟨c5, i5, rfl, ht5, hi5, s5, nd5⟩; have m5 : roomAt w5 q 6 = true := (s5.room (by omega) (by omega) 6).trans m2'; have m52 : roomAt w5 w.heap.size 6 = true := (s5.room (by omega) (by omega) 6).trans m22))
                have LN : Lpd w (putRow w5 q c5.cells) b g cap L i o q R f i5 :=
                  ⟨n, c5, f2, by omega, by rw [← ht5]; exact HR.out, by omega, by omega, rowNd_put _ _ _ m5, room_keep m5 _ rfl, (room_far _ _ _ _ _ (by omega)).trans m52, (B2.out.1.next s5).old bl gl _ (by omega) _, nd5.keep (fun x hx _ => hx) (by rw [size_put]; exact Nat.le_refl _) (fun x hx _ => put_far _ _ _ _ hx.2)⟩
                go_roundg g'
                case measure => omega
                case rel => exact ⟨i5, LN, by omega⟩
            · have d4 : decide (wd (L.drop j) = [40]) = false := by simpa using h4
              rw [if_neg h1, if_neg h2, if_neg h3, if_neg h4] at hrun
              have HR : Hid (R = .ok l (L.drop j)) := hrun.symm
              clear hrun
              go_wp2_with ((go_at_call 39; refine WA.mono ?_; rintro e w2 ⟨rfl, hb2⟩; have hs2 := hb2.size; obtain ⟨r2, m2', m22, S2, nd2⟩ := HN.out w2 hb2; have B2 : Hid (St w w2 b g cap L j o ∧ NdAt w2 (fun x => w.heap.size + 1 ≤ x ∧ x ≠ q) c l) := ⟨S2, nd2⟩; clear S2 nd2))
              rw [HR.out]
              exact ret_cell1 rfl rfl (loadNd_row (rowNd_put _ _ _ m22)) rfl (fin_post B2.out.1 bl gl hij rfl (B2.out.2.keep (fun x hx _ => hx.1) (Nat.le_refl _) (fun _ _ _ => rfl)))
  · rw [if_neg hn, Rs.bind_bad]
    have NN : Hid (∀ X, RdAt X b g cap L i o → Calls Tryd.prog 31 #[.pointer (some ⟨b, 0, none⟩), .int .i64 31] X _) := fun X hX => named_no X b g cap L i o hX hn 31
    clear hT h hf hn
    generalize (hd (L.drop i)).p = p at NN ⊢
    go_enter Tryd.func81, Tryd.ntmps81
    go_wp2_with (go_at_call 31; refine (NN.out _ (H.out.alloc _)).mono ?_; rintro e w1 ⟨he, g1⟩; unfold gaveUp at he; subst he)
    exact ⟨rfl, rfl, gb_trans ((St.refl H.out).alloc _).gb g1⟩
end Go.Proofs.YtllhcjmabhempaaDoor
