/-
  Layer 9: rows of the module's parts.
-/
import Derived.Test.YtllhcjmabhempaaDoorEdg
namespace Go.Proofs.YtllhcjmabhempaaDoor
set_option linter.unusedVariables false
set_option linter.unusedSimpArgs false
open Go.ChangeShapes Go.WideShapes Go.ChangeAt Go.RowKit


attribute [local go_sem] fieldTk0 fieldTk3 hmf
attribute [local go_sem ↓] bslNd_seal
attribute [local go_sem] bslNd1_run bslNd2_run
attribute [local go_sem ↓] appN_seal
def LpR_bareIdent (part : List Tok → Rs Nd) (w X : World) (b g cap : Nat) (L : List Tok) (i o : Nat) (s : Bs) (v : Value) (R : Rs Nd) (j : Nat) : Prop := ∃ l cs f1, (if wd (L.drop j) = s then rowR s part f1 l (L.drop (j + 1)) else .ok (lst l) (L.drop j)) = R ∧ L.length ≤ j + f1 ∧ i < j ∧ St w X b g cap L j o ∧ Rw X w.heap.size v l cs ∧ 0 < l.length ∧ l.length ≤ j
set_option maxHeartbeats 4000000 in
set_option maxRecDepth 20000 in
theorem row_bareIdent (part : List Tok → Rs Nd) (f : Nat) (w : World) (b g cap : Nat) (L : List Tok) (i o : Nat) (s : Bs) (hs : s ≠ []) (h : RdAt w b g cap L i o) (hf : L.length ≤ i + f) (hP : ∀ X j, i ≤ j → RdAt X b g cap L j o → Calls Tryd.prog 79 #[.pointer (some ⟨b, 0, none⟩)] X (PostN X b g cap L j o (part (L.drop j)))) :
    Calls Tryd.prog 33 #[.pointer (some ⟨b, 0, none⟩), .string (bs s), .func (.func 79) #[.pointer (some ⟨b, 0, none⟩)] #[]] w (PostL w b g cap L i o (rowR s part (f + 1) [] (L.drop i))) := by
  have bl := h.bl
  have gl := h.gl
  have hil := h.il
  have hll := h.ll
  have H : Hid (RdAt w b g cap L i o) := h
  have HP : Hid (∀ X j, i ≤ j → RdAt X b g cap L j o → Calls Tryd.prog 79 #[.pointer (some ⟨b, 0, none⟩)] X (PostN X b g cap L j o (part (L.drop j)))) := hP
  have P1 : Hid (∀ X, RdAt X b g cap L i o → Calls Tryd.prog 79 #[.pointer (some ⟨b, 0, none⟩)] X (PostN X b g cap L i o (part (L.drop i)))) := fun X hX => hP X i (Nat.le_refl _) hX
  obtain ⟨i0, hi0, hz0, hz1, hz2⟩ := info_parts infoNd
  clear hP h
  rw [rowR]
  cases hr : part (L.drop i) with
  | bad p e =>
    rw [hr] at P1
    rw [Rs.bind_bad]
    clear hr
    go_enter Tryd.func33, Tryd.ntmps33
    go_wp2_with (go_at_call 79; refine (P1.out _ H.out).mono ?_; rintro e w1 ⟨he, g1⟩; unfold gaveUp at he; subst he)
    exact ⟨rfl, rfl, g1⟩
  | ok x0 r0 =>
    rw [hr] at P1
    rw [Rs.bind_ok]
    clear hr
    generalize hR : (if wd r0 = s then rowR s part f ([] ++ [x0]) r0.tail else Rs.ok (lst ([] ++ [x0])) r0) = R
    have HR0 : Hid ((if wd r0 = s then rowR s part f ([] ++ [x0]) r0.tail else Rs.ok (lst ([] ++ [x0])) r0) = R) := hR
    clear hR
    go_enter Tryd.func33, Tryd.ntmps33
    go_wp2_with (go_at_call 79; refine (P1.out _ H.out).mono ?_; rintro e w1 ⟨c1, i1, rfl, ht1, hi1, s1, nd1⟩)
    have hs1 := s1.size
    have LP : LpR_bareIdent part w (w1.alloc (.cells c1.cells 31)) b g cap L i o s (.slice (some ⟨w1.heap.size, 0, none⟩) 1 1) R i1 := by
      refine ⟨[x0], [c1], f, ?_, by omega, hi1, s1.alloc _, ⟨rfl, ⟨rfl, .inr ⟨w1.heap.size, 1, c1.cells, rfl, hs1, heap_new' _ _ rfl, Nat.le_refl _, by decide, rfl, ?_⟩⟩, fun j h1 h2 => ?_⟩, by simp, by simp; omega⟩
      · have := HR0.out
        rw [ht1] at this
        rw [← List.tail_drop]
        exact this
      · simp [ndC, Nc.cells]
      · have : j = 0 := by simp at h1; omega
        subst this
        exact nd1.keep (fun x hx hl => ⟨hx, by simp only [Value.ownBlock]; intro e; injection e with e; omega⟩) (by simp) (fun x hx hl => ((Below.refl _ _).alloc (Nat.le_refl _) _).block x hl)
    clear P1 s1 nd1 ht1 HR0
    generalize (Value.slice (some ⟨w1.heap.size, 0, none⟩) 1 1) = v0 at LP ⊢
    go_loopg [7] (L.length + 1) (fun gf s7 X => ∃ j, LpR_bareIdent part w X b g cap L i o s s7 R j ∧ L.length + 1 ≤ j + gf)
    case atStart => exact ⟨i1, LP, by omega⟩
    case round =>
      obtain ⟨j, ⟨l, cs, f1, hrun, hfu, hij, SJ, RW, hl0, hlj⟩, hg⟩ := hrel
      have hjl := SJ.rd.il
      obtain ⟨g', rfl⟩ : ∃ g', gk = g' + 1 := ⟨gk - 1, by omega⟩
      obtain ⟨f2, rfl⟩ : ∃ f2, f1 = f2 + 1 := ⟨f1 - 1, by omega⟩
      have hsz := SJ.size
      have AJ : Hid (St w wr b g cap L j o ∧ Rw wr w.heap.size u7 l cs) := ⟨SJ, RW⟩
      have hcl : cs.length = l.length := RW.len
      clear SJ RW LP
      by_cases hk : wd (L.drop j) = s
      · rw [if_pos hk, rowR] at hrun
        have hn : j + 1 < L.length := AJ.out.1.rd.last j AJ.out.1.rd.il (by rw [← AJ.out.1.rd.hd]; exact wd_kind (by rw [hk]; exact hs))
        have FY := found_yes wr b g cap L j o AJ.out.1.rd s hs hk
        have PP : Hid (∀ X, RdAt X b g cap L (j + 1) o → Calls Tryd.prog 79 #[.pointer (some ⟨b, 0, none⟩)] X (PostN X b g cap L (j + 1) o (part (L.drop (j + 1))))) := fun X hX => HP.out X (j + 1) (by omega) hX
        cases hr2 : part (L.drop (j + 1)) with
        | bad p e =>
          rw [hr2] at PP hrun
          rw [Rs.bind_bad] at hrun
          have HR : Hid (R = .bad p e) := hrun.symm
          clear hr2 hrun hk
          go_wp2_with (first
            | (go_at_call 32; refine FY.mono ?_; rintro e w3 ⟨rfl, s3⟩; have A3 : Hid (St w w3 b g cap L (j + 1) o) := AJ.out.1.next s3)
            | (go_at_call 79; refine (PP.out _ A3.out.rd).mono ?_; rintro e w5 ⟨he, g5⟩; unfold gaveUp at he; subst he))
          rw [HR.out]
          exact ⟨rfl, rfl, gb_trans A3.out.gb g5⟩
        | ok x r =>
          rw [hr2] at PP hrun
          rw [Rs.bind_ok] at hrun
          have HR : Hid ((if wd r = s then rowR s part f2 (l ++ [x]) r.tail else Rs.ok (lst (l ++ [x])) r) = R) := hrun
          clear hr2 hrun hk
          have hb9 : ∀ q, u7.ownBlock = some q → q < wr.heap.size := fun q hq => (own_lt' AJ.out.2.own hq).1
          go_wp2_with (first
            | (go_at_call 32; refine FY.mono ?_; rintro e w3 ⟨rfl, s3⟩; have hs3 := s3.size; have A3 : Hid (St w w3 b g cap L (j + 1) o ∧ Rw w3 w.heap.size u7 l cs) := ⟨AJ.out.1.next s3, AJ.out.2.step bl s3.gb⟩)
            | (go_at_call 79; refine (PP.out _ A3.out.1.rd).mono ?_; rintro e w5 ⟨c5, i5, rfl, ht5, hi5, s5, nd5⟩; have hs5 := s5.size; have R5 : Rw (w5.alloc (.cells c5.cells 31)) w.heap.size u7 l cs := (A3.out.2.step bl s5.gb).step bl (gb_of_below (by go_grown) b); have hi5l := s5.rd.il; obtain ⟨v6, w6, hrun6, hown6, hgrow6, _⟩ := run_append_own (P := Tryd.prog) (w := w5.alloc (.cells c5.cells 31)) w.heap.size 29 29 31 i0 _ 6 72 Tryd.underlying29 hi0 hz0 hz1 hz2 rfl (by decide) u7 cs.length _ R5.own ⟨w5.heap.size, 0, none⟩ 1 1 c5.cells.toList rfl (nd_cells _ _) (nd_one _) (by unfold maxLen; omega) (by omega) (by simp; omega); have hblk := append_block (P := Tryd.prog) (w := w5.alloc (.cells c5.cells 31)) w.heap.size 29 29 31 i0 _ 6 72 Tryd.underlying29 hi0 hz0 hz1 hz2 u7 cs.length _ R5.own ⟨w5.heap.size, 0, none⟩ 1 1 c5.cells.toList (by omega) rfl (nd_cells _ _) (nd_one _) (by unfold maxLen; omega) (by omega) hrun6; have R6 : Hid (Rw w6 w.heap.size v6 (l ++ [x]) (cs ++ [c5])) := R5.app hown6 hgrow6 hblk (nd5.keep (fun y hy hl => ⟨by omega, fun e => by have := hb9 y e; omega⟩) (by simp) (fun y hy hl => ((Below.refl _ _).alloc (Nat.le_refl _) _).block y hl)); have S6 : Hid (St w w6 b g cap L i5 o ∧ r = L.drop i5 ∧ j + 1 < i5) := ⟨((A3.out.1.next s5).alloc _).grow bl gl R5.own hgrow6, ht5, hi5⟩; rw [appN_seal] at hrun6; clear hown6 hgrow6 hblk R5 nd5 s5 ht5 hi5))
          have LN : LpR_bareIdent part w w6 b g cap L i o s v6 R i5 := by
            have e5 := S6.out.2.1
            have e6 := S6.out.2.2
            have e7 := S6.out.1.rd.il
            refine ⟨l ++ [x], cs ++ [c5], f2, ?_, by omega, by omega, S6.out.1, R6.out, by simp, by simp; omega⟩
            have := HR.out
            rw [e5, List.tail_drop] at this
            exact this
          have e6 := S6.out.2.2
          go_roundg g'
          case measure => omega
          case rel => exact ⟨i5, LN, by omega⟩
      · rw [if_neg hk] at hrun
        have HR : Hid (R = .ok (lst l) (L.drop j)) := hrun.symm
        have FN := found_no wr b g cap L j o AJ.out.1.rd s hk
        clear hrun hk
        go_wp2_with (go_at_call 32; refine FN.mono ?_; rintro e w3 ⟨rfl, hb3⟩; have A3 : Hid (St w w3 b g cap L j o ∧ Rw w3 w.heap.size u7 l cs) := ⟨AJ.out.1.below hb3, AJ.out.2.step bl (gb_of_below hb3 b)⟩)
        rw [HR.out]
        have ro := A3.out.2
        rcases ro.own.2 with ⟨_, hz⟩ | ⟨g2, cp, cur, rfl, h1, h2, _⟩
        · omega
        · rw [hcl] at ro ⊢
          go_ret
          exact ⟨g2, cp, j, rfl, rfl, hij, A3.out.1, by have := kids_from ro l.length 0 rfl (Nat.zero_le _); rw [List.drop_zero] at this; exact this, (Array.getElem?_eq_some_iff.1 h2).1, h1, cs, ro, hl0, hlj⟩
def LpR_markedIdent (part : List Tok → Rs Nd) (w X : World) (b g cap : Nat) (L : List Tok) (i o : Nat) (s : Bs) (v : Value) (R : Rs Nd) (j : Nat) : Prop := ∃ l cs f1, (if wd (L.drop j) = s then rowR s part f1 l (L.drop (j + 1)) else .ok (lst l) (L.drop j)) = R ∧ L.length ≤ j + f1 ∧ i < j ∧ St w X b g cap L j o ∧ Rw X w.heap.size v l cs ∧ 0 < l.length ∧ l.length ≤ j
set_option maxHeartbeats 4000000 in
set_option maxRecDepth 20000 in
theorem row_markedIdent (part : List Tok → Rs Nd) (f : Nat) (w : World) (b g cap : Nat) (L : List Tok) (i o : Nat) (s : Bs) (hs : s ≠ []) (h : RdAt w b g cap L i o) (hf : L.length ≤ i + f) (hP : ∀ X j, i ≤ j → RdAt X b g cap L j o → Calls Tryd.prog 57 #[.pointer (some ⟨b, 0, none⟩)] X (PostN X b g cap L j o (part (L.drop j)))) :
    Calls Tryd.prog 33 #[.pointer (some ⟨b, 0, none⟩), .string (bs s), .func (.func 57) #[.pointer (some ⟨b, 0, none⟩)] #[]] w (PostL w b g cap L i o (rowR s part (f + 1) [] (L.drop i))) := by
  have bl := h.bl
  have gl := h.gl
  have hil := h.il
  have hll := h.ll
  have H : Hid (RdAt w b g cap L i o) := h
  have HP : Hid (∀ X j, i ≤ j → RdAt X b g cap L j o → Calls Tryd.prog 57 #[.pointer (some ⟨b, 0, none⟩)] X (PostN X b g cap L j o (part (L.drop j)))) := hP
  have P1 : Hid (∀ X, RdAt X b g cap L i o → Calls Tryd.prog 57 #[.pointer (some ⟨b, 0, none⟩)] X (PostN X b g cap L i o (part (L.drop i)))) := fun X hX => hP X i (Nat.le_refl _) hX
  obtain ⟨i0, hi0, hz0, hz1, hz2⟩ := info_parts infoNd
  clear hP h
  rw [rowR]
  cases hr : part (L.drop i) with
  | bad p e =>
    rw [hr] at P1
    rw [Rs.bind_bad]
    clear hr
    go_enter Tryd.func33, Tryd.ntmps33
    go_wp2_with (go_at_call 57; refine (P1.out _ H.out).mono ?_; rintro e w1 ⟨he, g1⟩; unfold gaveUp at he; subst he)
    exact ⟨rfl, rfl, g1⟩
  | ok x0 r0 =>
    rw [hr] at P1
    rw [Rs.bind_ok]
    clear hr
    generalize hR : (if wd r0 = s then rowR s part f ([] ++ [x0]) r0.tail else Rs.ok (lst ([] ++ [x0])) r0) = R
    have HR0 : Hid ((if wd r0 = s then rowR s part f ([] ++ [x0]) r0.tail else Rs.ok (lst ([] ++ [x0])) r0) = R) := hR
    clear hR
    go_enter Tryd.func33, Tryd.ntmps33
    go_wp2_with (go_at_call 57; refine (P1.out _ H.out).mono ?_; rintro e w1 ⟨c1, i1, rfl, ht1, hi1, s1, nd1⟩)
    have hs1 := s1.size
    have LP : LpR_markedIdent part w (w1.alloc (.cells c1.cells 31)) b g cap L i o s (.slice (some ⟨w1.heap.size, 0, none⟩) 1 1) R i1 := by
      refine ⟨[x0], [c1], f, ?_, by omega, hi1, s1.alloc _, ⟨rfl, ⟨rfl, .inr ⟨w1.heap.size, 1, c1.cells, rfl, hs1, heap_new' _ _ rfl, Nat.le_refl _, by decide, rfl, ?_⟩⟩, fun j h1 h2 => ?_⟩, by simp, by simp; omega⟩
      · have := HR0.out
        rw [ht1] at this
        rw [← List.tail_drop]
        exact this
      · simp [ndC, Nc.cells]
      · have : j = 0 := by simp at h1; omega
        subst this
        exact nd1.keep (fun x hx hl => ⟨hx, by simp only [Value.ownBlock]; intro e; injection e with e; omega⟩) (by simp) (fun x hx hl => ((Below.refl _ _).alloc (Nat.le_refl _) _).block x hl)
    clear P1 s1 nd1 ht1 HR0
    generalize (Value.slice (some ⟨w1.heap.size, 0, none⟩) 1 1) = v0 at LP ⊢
    go_loopg [7] (L.length + 1) (fun gf s7 X => ∃ j, LpR_markedIdent part w X b g cap L i o s s7 R j ∧ L.length + 1 ≤ j + gf)
    case atStart => exact ⟨i1, LP, by omega⟩
    case round =>
      obtain ⟨j, ⟨l, cs, f1, hrun, hfu, hij, SJ, RW, hl0, hlj⟩, hg⟩ := hrel
      have hjl := SJ.rd.il
      obtain ⟨g', rfl⟩ : ∃ g', gk = g' + 1 := ⟨gk - 1, by omega⟩
      obtain ⟨f2, rfl⟩ : ∃ f2, f1 = f2 + 1 := ⟨f1 - 1, by omega⟩
      have hsz := SJ.size
      have AJ : Hid (St w wr b g cap L j o ∧ Rw wr w.heap.size u7 l cs) := ⟨SJ, RW⟩
      have hcl : cs.length = l.length := RW.len
      clear SJ RW LP
      by_cases hk : wd (L.drop j) = s
      · rw [if_pos hk, rowR] at hrun
        have hn : j + 1 < L.length := AJ.out.1.rd.last j AJ.out.1.rd.il (by rw [← AJ.out.1.rd.hd]; exact wd_kind (by rw [hk]; exact hs))
        have FY := found_yes wr b g cap L j o AJ.out.1.rd s hs hk
        have PP : Hid (∀ X, RdAt X b g cap L (j + 1) o → Calls Tryd.prog 57 #[.pointer (some ⟨b, 0, none⟩)] X (PostN X b g cap L (j + 1) o (part (L.drop (j + 1))))) := fun X hX => HP.out X (j + 1) (by omega) hX
        cases hr2 : part (L.drop (j + 1)) with
        | bad p e =>
          rw [hr2] at PP hrun
          rw [Rs.bind_bad] at hrun
          have HR : Hid (R = .bad p e) := hrun.symm
          clear hr2 hrun hk
          go_wp2_with (first
            | (go_at_call 32; refine FY.mono ?_; rintro e w3 ⟨rfl, s3⟩; have A3 : Hid (St w w3 b g cap L (j + 1) o) := AJ.out.1.next s3)
            | (go_at_call 57; refine (PP.out _ A3.out.rd).mono ?_; rintro e w5 ⟨he, g5⟩; unfold gaveUp at he; subst he))
          rw [HR.out]
          exact ⟨rfl, rfl, gb_trans A3.out.gb g5⟩
        | ok x r =>
          rw [hr2] at PP hrun
          rw [Rs.bind_ok] at hrun
          have HR : Hid ((if wd r = s then rowR s part f2 (l ++ [x]) r.tail else Rs.ok (lst (l ++ [x])) r) = R) := hrun
          clear hr2 hrun hk
          have hb9 : ∀ q, u7.ownBlock = some q → q < wr.heap.size := fun q hq => (own_lt' AJ.out.2.own hq).1
          go_wp2_with (first
            | (go_at_call 32; refine FY.mono ?_; rintro e w3 ⟨rfl, s3⟩; have hs3 := s3.size; have A3 : Hid (St w w3 b g cap L (j + 1) o ∧ Rw w3 w.heap.size u7 l cs) := ⟨AJ.out.1.next s3, AJ.out.2.step bl s3.gb⟩)
            | (go_at_call 57; refine (PP.out _ A3.out.1.rd).mono ?_; rintro e w5 ⟨c5, i5, rfl, ht5, hi5, s5, nd5⟩; have hs5 := s5.size; have R5 : Rw (w5.alloc (.cells c5.cells 31)) w.heap.size u7 l cs := (A3.out.2.step bl s5.gb).step bl (gb_of_below (by go_grown) b); have hi5l := s5.rd.il; obtain ⟨v6, w6, hrun6, hown6, hgrow6, _⟩ := run_append_own (P := Tryd.prog) (w := w5.alloc (.cells c5.cells 31)) w.heap.size 29 29 31 i0 _ 6 72 Tryd.underlying29 hi0 hz0 hz1 hz2 rfl (by decide) u7 cs.length _ R5.own ⟨w5.heap.size, 0, none⟩ 1 1 c5.cells.toList rfl (nd_cells _ _) (nd_one _) (by unfold maxLen; omega) (by omega) (by simp; omega); have hblk := append_block (P := Tryd.prog) (w := w5.alloc (.cells c5.cells 31)) w.heap.size 29 29 31 i0 _ 6 72 Tryd.underlying29 hi0 hz0 hz1 hz2 u7 cs.length _ R5.own ⟨w5.heap.size, 0, none⟩ 1 1 c5.cells.toList (by omega) rfl (nd_cells _ _) (nd_one _) (by unfold maxLen; omega) (by omega) hrun6; have R6 : Hid (Rw w6 w.heap.size v6 (l ++ [x]) (cs ++ [c5])) := R5.app hown6 hgrow6 hblk (nd5.keep (fun y hy hl => ⟨by omega, fun e => by have := hb9 y e; omega⟩) (by simp) (fun y hy hl => ((Below.refl _ _).alloc (Nat.le_refl _) _).block y hl)); have S6 : Hid (St w w6 b g cap L i5 o ∧ r = L.drop i5 ∧ j + 1 < i5) := ⟨((A3.out.1.next s5).alloc _).grow bl gl R5.own hgrow6, ht5, hi5⟩; rw [appN_seal] at hrun6; clear hown6 hgrow6 hblk R5 nd5 s5 ht5 hi5))
          have LN : LpR_markedIdent part w w6 b g cap L i o s v6 R i5 := by
            have e5 := S6.out.2.1
            have e6 := S6.out.2.2
            have e7 := S6.out.1.rd.il
            refine ⟨l ++ [x], cs ++ [c5], f2, ?_, by omega, by omega, S6.out.1, R6.out, by simp, by simp; omega⟩
            have := HR.out
            rw [e5, List.tail_drop] at this
            exact this
          have e6 := S6.out.2.2
          go_roundg g'
          case measure => omega
          case rel => exact ⟨i5, LN, by omega⟩
      · rw [if_neg hk] at hrun
        have HR : Hid (R = .ok (lst l) (L.drop j)) := hrun.symm
        have FN := found_no wr b g cap L j o AJ.out.1.rd s hk
        clear hrun hk
        go_wp2_with (go_at_call 32; refine FN.mono ?_; rintro e w3 ⟨rfl, hb3⟩; have A3 : Hid (St w w3 b g cap L j o ∧ Rw w3 w.heap.size u7 l cs) := ⟨AJ.out.1.below hb3, AJ.out.2.step bl (gb_of_below hb3 b)⟩)
        rw [HR.out]
        have ro := A3.out.2
        rcases ro.own.2 with ⟨_, hz⟩ | ⟨g2, cp, cur, rfl, h1, h2, _⟩
        · omega
        · rw [hcl] at ro ⊢
          go_ret
          exact ⟨g2, cp, j, rfl, rfl, hij, A3.out.1, by have := kids_from ro l.length 0 rfl (Nat.zero_le _); rw [List.drop_zero] at this; exact this, (Array.getElem?_eq_some_iff.1 h2).1, h1, cs, ro, hl0, hlj⟩
def LpR_fields (part : List Tok → Rs Nd) (w X : World) (b g cap : Nat) (L : List Tok) (i o : Nat) (s : Bs) (v : Value) (R : Rs Nd) (j : Nat) : Prop := ∃ l cs f1, (if wd (L.drop j) = s then rowR s part f1 l (L.drop (j + 1)) else .ok (lst l) (L.drop j)) = R ∧ L.length ≤ j + f1 ∧ i < j ∧ St w X b g cap L j o ∧ Rw X w.heap.size v l cs ∧ 0 < l.length ∧ l.length ≤ j
set_option maxHeartbeats 4000000 in
set_option maxRecDepth 20000 in
theorem row_fields (part : List Tok → Rs Nd) (f : Nat) (w : World) (b g cap : Nat) (L : List Tok) (i o : Nat) (s : Bs) (hs : s ≠ []) (h : RdAt w b g cap L i o) (hf : L.length ≤ i + f) (hP : ∀ X j, i ≤ j → RdAt X b g cap L j o → Calls Tryd.prog 78 #[.pointer (some ⟨b, 0, none⟩)] X (PostN X b g cap L j o (part (L.drop j)))) :
    Calls Tryd.prog 33 #[.pointer (some ⟨b, 0, none⟩), .string (bs s), .func (.func 78) #[.pointer (some ⟨b, 0, none⟩)] #[]] w (PostL w b g cap L i o (rowR s part (f + 1) [] (L.drop i))) := by
  have bl := h.bl
  have gl := h.gl
  have hil := h.il
  have hll := h.ll
  have H : Hid (RdAt w b g cap L i o) := h
  have HP : Hid (∀ X j, i ≤ j → RdAt X b g cap L j o → Calls Tryd.prog 78 #[.pointer (some ⟨b, 0, none⟩)] X (PostN X b g cap L j o (part (L.drop j)))) := hP
  have P1 : Hid (∀ X, RdAt X b g cap L i o → Calls Tryd.prog 78 #[.pointer (some ⟨b, 0, none⟩)] X (PostN X b g cap L i o (part (L.drop i)))) := fun X hX => hP X i (Nat.le_refl _) hX
  obtain ⟨i0, hi0, hz0, hz1, hz2⟩ := info_parts infoNd
  clear hP h
  rw [rowR]
  cases hr : part (L.drop i) with
  | bad p e =>
    rw [hr] at P1
    rw [Rs.bind_bad]
    clear hr
    go_enter Tryd.func33, Tryd.ntmps33
    go_wp2_with (go_at_call 78; refine (P1.out _ H.out).mono ?_; rintro e w1 ⟨he, g1⟩; unfold gaveUp at he; subst he)
    exact ⟨rfl, rfl, g1⟩
  | ok x0 r0 =>
    rw [hr] at P1
    rw [Rs.bind_ok]
    clear hr
    generalize hR : (if wd r0 = s then rowR s part f ([] ++ [x0]) r0.tail else Rs.ok (lst ([] ++ [x0])) r0) = R
    have HR0 : Hid ((if wd r0 = s then rowR s part f ([] ++ [x0]) r0.tail else Rs.ok (lst ([] ++ [x0])) r0) = R) := hR
    clear hR
    go_enter Tryd.func33, Tryd.ntmps33
    go_wp2_with (go_at_call 78; refine (P1.out _ H.out).mono ?_; rintro e w1 ⟨c1, i1, rfl, ht1, hi1, s1, nd1⟩)
    have hs1 := s1.size
    have LP : LpR_fields part w (w1.alloc (.cells c1.cells 31)) b g cap L i o s (.slice (some ⟨w1.heap.size, 0, none⟩) 1 1) R i1 := by
      refine ⟨[x0], [c1], f, ?_, by omega, hi1, s1.alloc _, ⟨rfl, ⟨rfl, .inr ⟨w1.heap.size, 1, c1.cells, rfl, hs1, heap_new' _ _ rfl, Nat.le_refl _, by decide, rfl, ?_⟩⟩, fun j h1 h2 => ?_⟩, by simp, by simp; omega⟩
      · have := HR0.out
        rw [ht1] at this
        rw [← List.tail_drop]
        exact this
      · simp [ndC, Nc.cells]
      · have : j = 0 := by simp at h1; omega
        subst this
        exact nd1.keep (fun x hx hl => ⟨hx, by simp only [Value.ownBlock]; intro e; injection e with e; omega⟩) (by simp) (fun x hx hl => ((Below.refl _ _).alloc (Nat.le_refl _) _).block x hl)
    clear P1 s1 nd1 ht1 HR0
    generalize (Value.slice (some ⟨w1.heap.size, 0, none⟩) 1 1) = v0 at LP ⊢
    go_loopg [7] (L.length + 1) (fun gf s7 X => ∃ j, LpR_fields part w X b g cap L i o s s7 R j ∧ L.length + 1 ≤ j + gf)
    case atStart => exact ⟨i1, LP, by omega⟩
    case round =>
      obtain ⟨j, ⟨l, cs, f1, hrun, hfu, hij, SJ, RW, hl0, hlj⟩, hg⟩ := hrel
      have hjl := SJ.rd.il
      obtain ⟨g', rfl⟩ : ∃ g', gk = g' + 1 := ⟨gk - 1, by omega⟩
      obtain ⟨f2, rfl⟩ : ∃ f2, f1 = f2 + 1 := ⟨f1 - 1, by omega⟩
      have hsz := SJ.size
      have AJ : Hid (St w wr b g cap L j o ∧ Rw wr w.heap.size u7 l cs) := ⟨SJ, RW⟩
      have hcl : cs.length = l.length := RW.len
      clear SJ RW LP
      by_cases hk : wd (L.drop j) = s
      · rw [if_pos hk, rowR] at hrun
        have hn : j + 1 < L.length := AJ.out.1.rd.last j AJ.out.1.rd.il (by rw [← AJ.out.1.rd.hd]; exact wd_kind (by rw [hk]; exact hs))
        have FY := found_yes wr b g cap L j o AJ.out.1.rd s hs hk
        have PP : Hid (∀ X, RdAt X b g cap L (j + 1) o → Calls Tryd.prog 78 #[.pointer (some ⟨b, 0, none⟩)] X (PostN X b g cap L (j + 1) o (part (L.drop (j + 1))))) := fun X hX => HP.out X (j + 1) (by omega) hX
        cases hr2 : part (L.drop (j + 1)) with
        | bad p e =>
          rw [hr2] at PP hrun
          rw [Rs.bind_bad] at hrun
          have HR : Hid (R = .bad p e) := hrun.symm
          clear hr2 hrun hk
          go_wp2_with (first
            | (go_at_call 32; refine FY.mono ?_; rintro e w3 ⟨rfl, s3⟩; have A3 : Hid (St w w3 b g cap L (j + 1) o) := AJ.out.1.next s3)
            | (go_at_call 78; refine (PP.out _ A3.out.rd).mono ?_; rintro e w5 ⟨he, g5⟩; unfold gaveUp at he; subst he))
          rw [HR.out]
          exact ⟨rfl, rfl, gb_trans A3.out.gb g5⟩
        | ok x r =>
          rw [hr2] at PP hrun
          rw [Rs.bind_ok] at hrun
          have HR : Hid ((if wd r = s then rowR s part f2 (l ++ [x]) r.tail else Rs.ok (lst (l ++ [x])) r) = R) := hrun
          clear hr2 hrun hk
          have hb9 : ∀ q, u7.ownBlock = some q → q < wr.heap.size := fun q hq => (own_lt' AJ.out.2.own hq).1
          go_wp2_with (first
            | (go_at_call 32; refine FY.mono ?_; rintro e w3 ⟨rfl, s3⟩; have hs3 := s3.size; have A3 : Hid (St w w3 b g cap L (j + 1) o ∧ Rw w3 w.heap.size u7 l cs) := ⟨AJ.out.1.next s3, AJ.out.2.step bl s3.gb⟩)
            | (go_at_call 78; refine (PP.out _ A3.out.1.rd).mono ?_; rintro e w5 ⟨c5, i5, rfl, ht5, hi5, s5, nd5⟩; have hs5 := s5.size; have R5 : Rw (w5.alloc (.cells c5.cells 31)) w.heap.size u7 l cs := (A3.out.2.step bl s5.gb).step bl (gb_of_below (by go_grown) b); have hi5l := s5.rd.il; obtain ⟨v6, w6, hrun6, hown6, hgrow6, _⟩ := run_append_own (P := Tryd.prog) (w := w5.alloc (.cells c5.cells 31)) w.heap.size 29 29 31 i0 _ 6 72 Tryd.underlying29 hi0 hz0 hz1 hz2 rfl (by decide) u7 cs.length _ R5.own ⟨w5.heap.size, 0, none⟩ 1 1 c5.cells.toList rfl (nd_cells _ _) (nd_one _) (by unfold maxLen; omega) (by omega) (by simp; omega); have hblk := append_block (P := Tryd.prog) (w := w5.alloc (.cells c5.cells 31)) w.heap.size 29 29 31 i0 _ 6 72 Tryd.underlying29 hi0 hz0 hz1 hz2 u7 cs.length _ R5.own ⟨w5.heap.size, 0, none⟩ 1 1 c5.cells.toList (by omega) rfl (nd_cells _ _) (nd_one _) (by unfold maxLen; omega) (by omega) hrun6; have R6 : Hid (Rw w6 w.heap.size v6 (l ++ [x]) (cs ++ [c5])) := R5.app hown6 hgrow6 hblk (nd5.keep (fun y hy hl => ⟨by omega, fun e => by have := hb9 y e; omega⟩) (by simp) (fun y hy hl => ((Below.refl _ _).alloc (Nat.le_refl _) _).block y hl)); have S6 : Hid (St w w6 b g cap L i5 o ∧ r = L.drop i5 ∧ j + 1 < i5) := ⟨((A3.out.1.next s5).alloc _).grow bl gl R5.own hgrow6, ht5, hi5⟩; rw [appN_seal] at hrun6; clear hown6 hgrow6 hblk R5 nd5 s5 ht5 hi5))
          have LN : LpR_fields part w w6 b g cap L i o s v6 R i5 := by
            have e5 := S6.out.2.1
            have e6 := S6.out.2.2
            have e7 := S6.out.1.rd.il
            refine ⟨l ++ [x], cs ++ [c5], f2, ?_, by omega, by omega, S6.out.1, R6.out, by simp, by simp; omega⟩
            have := HR.out
            rw [e5, List.tail_drop] at this
            exact this
          have e6 := S6.out.2.2
          go_roundg g'
          case measure => omega
          case rel => exact ⟨i5, LN, by omega⟩
      · rw [if_neg hk] at hrun
        have HR : Hid (R = .ok (lst l) (L.drop j)) := hrun.symm
        have FN := found_no wr b g cap L j o AJ.out.1.rd s hk
        clear hrun hk
        go_wp2_with (go_at_call 32; refine FN.mono ?_; rintro e w3 ⟨rfl, hb3⟩; have A3 : Hid (St w w3 b g cap L j o ∧ Rw w3 w.heap.size u7 l cs) := ⟨AJ.out.1.below hb3, AJ.out.2.step bl (gb_of_below hb3 b)⟩)
        rw [HR.out]
        have ro := A3.out.2
        rcases ro.own.2 with ⟨_, hz⟩ | ⟨g2, cp, cur, rfl, h1, h2, _⟩
        · omega
        · rw [hcl] at ro ⊢
          go_ret
          exact ⟨g2, cp, j, rfl, rfl, hij, A3.out.1, by have := kids_from ro l.length 0 rfl (Nat.zero_le _); rw [List.drop_zero] at this; exact this, (Array.getElem?_eq_some_iff.1 h2).1, h1, cs, ro, hl0, hlj⟩
def LpR_parameters (part : List Tok → Rs Nd) (w X : World) (b g cap : Nat) (L : List Tok) (i o : Nat) (s : Bs) (v : Value) (R : Rs Nd) (j : Nat) : Prop := ∃ l cs f1, (if wd (L.drop j) = s then rowR s part f1 l (L.drop (j + 1)) else .ok (lst l) (L.drop j)) = R ∧ L.length ≤ j + f1 ∧ i < j ∧ St w X b g cap L j o ∧ Rw X w.heap.size v l cs ∧ 0 < l.length ∧ l.length ≤ j
set_option maxHeartbeats 4000000 in
set_option maxRecDepth 20000 in
theorem row_parameters (part : List Tok → Rs Nd) (f : Nat) (w : World) (b g cap : Nat) (L : List Tok) (i o : Nat) (s : Bs) (hs : s ≠ []) (h : RdAt w b g cap L i o) (hf : L.length ≤ i + f) (hP : ∀ X j, i ≤ j → RdAt X b g cap L j o → Calls Tryd.prog 68 #[.pointer (some ⟨b, 0, none⟩)] X (PostN X b g cap L j o (part (L.drop j)))) :
    Calls Tryd.prog 33 #[.pointer (some ⟨b, 0, none⟩), .string (bs s), .func (.func 68) #[.pointer (some ⟨b, 0, none⟩)] #[]] w (PostL w b g cap L i o (rowR s part (f + 1) [] (L.drop i))) := by
  have bl := h.bl
  have gl := h.gl
  have hil := h.il
  have hll := h.ll
  have H : Hid (RdAt w b g cap L i o) := h
  have HP : Hid (∀ X j, i ≤ j → RdAt X b g cap L j o → Calls Tryd.prog 68 #[.pointer (some ⟨b, 0, none⟩)] X (PostN X b g cap L j o (part (L.drop j)))) := hP
  have P1 : Hid (∀ X, RdAt X b g cap L i o → Calls Tryd.prog 68 #[.pointer (some ⟨b, 0, none⟩)] X (PostN X b g cap L i o (part (L.drop i)))) := fun X hX => hP X i (Nat.le_refl _) hX
  obtain ⟨i0, hi0, hz0, hz1, hz2⟩ := info_parts infoNd
  clear hP h
  rw [rowR]
  cases hr : part (L.drop i) with
  | bad p e =>
    rw [hr] at P1
    rw [Rs.bind_bad]
    clear hr
    go_enter Tryd.func33, Tryd.ntmps33
    go_wp2_with (go_at_call 68; refine (P1.out _ H.out).mono ?_; rintro e w1 ⟨he, g1⟩; unfold gaveUp at he; subst he)
    exact ⟨rfl, rfl, g1⟩
  | ok x0 r0 =>
    rw [hr] at P1
    rw [Rs.bind_ok]
    clear hr
    generalize hR : (if wd r0 = s then rowR s part f ([] ++ [x0]) r0.tail else Rs.ok (lst ([] ++ [x0])) r0) = R
    have HR0 : Hid ((if wd r0 = s then rowR s part f ([] ++ [x0]) r0.tail else Rs.ok (lst ([] ++ [x0])) r0) = R) := hR
    clear hR
    go_enter Tryd.func33, Tryd.ntmps33
    go_wp2_with (go_at_call 68; refine (P1.out _ H.out).mono ?_; rintro e w1 ⟨c1, i1, rfl, ht1, hi1, s1, nd1⟩)
    have hs1 := s1.size
    have LP : LpR_parameters part w (w1.alloc (.cells c1.cells 31)) b g cap L i o s (.slice (some ⟨w1.heap.size, 0, none⟩) 1 1) R i1 := by
      refine ⟨[x0], [c1], f, ?_, by omega, hi1, s1.alloc _, ⟨rfl, ⟨rfl, .inr ⟨w1.heap.size, 1, c1.cells, rfl, hs1, heap_new' _ _ rfl, Nat.le_refl _, by decide, rfl, ?_⟩⟩, fun j h1 h2 => ?_⟩, by simp, by simp; omega⟩
      · have := HR0.out
        rw [ht1] at this
        rw [← List.tail_drop]
        exact this
      · simp [ndC, Nc.cells]
      · have : j = 0 := by simp at h1; omega
        subst this
        exact nd1.keep (fun x hx hl => ⟨hx, by simp only [Value.ownBlock]; intro e; injection e with e; omega⟩) (by simp) (fun x hx hl => ((Below.refl _ _).alloc (Nat.le_refl _) _).block x hl)
    clear P1 s1 nd1 ht1 HR0
    generalize (Value.slice (some ⟨w1.heap.size, 0, none⟩) 1 1) = v0 at LP ⊢
    go_loopg [7] (L.length + 1) (fun gf s7 X => ∃ j, LpR_parameters part w X b g cap L i o s s7 R j ∧ L.length + 1 ≤ j + gf)
    case atStart => exact ⟨i1, LP, by omega⟩
    case round =>
      obtain ⟨j, ⟨l, cs, f1, hrun, hfu, hij, SJ, RW, hl0, hlj⟩, hg⟩ := hrel
      have hjl := SJ.rd.il
      obtain ⟨g', rfl⟩ : ∃ g', gk = g' + 1 := ⟨gk - 1, by omega⟩
      obtain ⟨f2, rfl⟩ : ∃ f2, f1 = f2 + 1 := ⟨f1 - 1, by omega⟩
      have hsz := SJ.size
      have AJ : Hid (St w wr b g cap L j o ∧ Rw wr w.heap.size u7 l cs) := ⟨SJ, RW⟩
      have hcl : cs.length = l.length := RW.len
      clear SJ RW LP
      by_cases hk : wd (L.drop j) = s
      · rw [if_pos hk, rowR] at hrun
        have hn : j + 1 < L.length := AJ.out.1.rd.last j AJ.out.1.rd.il (by rw [← AJ.out.1.rd.hd]; exact wd_kind (by rw [hk]; exact hs))
        have FY := found_yes wr b g cap L j o AJ.out.1.rd s hs hk
        have PP : Hid (∀ X, RdAt X b g cap L (j + 1) o → Calls Tryd.prog 68 #[.pointer (some ⟨b, 0, none⟩)] X (PostN X b g cap L (j + 1) o (part (L.drop (j + 1))))) := fun X hX => HP.out X (j + 1) (by omega) hX
        cases hr2 : part (L.drop (j + 1)) with
        | bad p e =>
          rw [hr2] at PP hrun
          rw [Rs.bind_bad] at hrun
          have HR : Hid (R = .bad p e) := hrun.symm
          clear hr2 hrun hk
          go_wp2_with (first
            | (go_at_call 32; refine FY.mono ?_; rintro e w3 ⟨rfl, s3⟩; have A3 : Hid (St w w3 b g cap L (j + 1) o) := AJ.out.1.next s3)
            | (go_at_call 68; refine (PP.out _ A3.out.rd).mono ?_; rintro e w5 ⟨he, g5⟩; unfold gaveUp at he; subst he))
          rw [HR.out]
          exact ⟨rfl, rfl, gb_trans A3.out.gb g5⟩
        | ok x r =>
          rw [hr2] at PP hrun
          rw [Rs.bind_ok] at hrun
          have HR : Hid ((if wd r = s then rowR s part f2 (l ++ [x]) r.tail else Rs.ok (lst (l ++ [x])) r) = R) := hrun
          clear hr2 hrun hk
          have hb9 : ∀ q, u7.ownBlock = some q → q < wr.heap.size := fun q hq => (own_lt' AJ.out.2.own hq).1
          go_wp2_with (first
            | (go_at_call 32; refine FY.mono ?_; rintro e w3 ⟨rfl, s3⟩; have hs3 := s3.size; have A3 : Hid (St w w3 b g cap L (j + 1) o ∧ Rw w3 w.heap.size u7 l cs) := ⟨AJ.out.1.next s3, AJ.out.2.step bl s3.gb⟩)
            | (go_at_call 68; refine (PP.out _ A3.out.1.rd).mono ?_; rintro e w5 ⟨c5, i5, rfl, ht5, hi5, s5, nd5⟩; have hs5 := s5.size; have R5 : Rw (w5.alloc (.cells c5.cells 31)) w.heap.size u7 l cs := (A3.out.2.step bl s5.gb).step bl (gb_of_below (by go_grown) b); have hi5l := s5.rd.il; obtain ⟨v6, w6, hrun6, hown6, hgrow6, _⟩ := run_append_own (P := Tryd.prog) (w := w5.alloc (.cells c5.cells 31)) w.heap.size 29 29 31 i0 _ 6 72 Tryd.underlying29 hi0 hz0 hz1 hz2 rfl (by decide) u7 cs.length _ R5.own ⟨w5.heap.size, 0, none⟩ 1 1 c5.cells.toList rfl (nd_cells _ _) (nd_one _) (by unfold maxLen; omega) (by omega) (by simp; omega); have hblk := append_block (P := Tryd.prog) (w := w5.alloc (.cells c5.cells 31)) w.heap.size 29 29 31 i0 _ 6 72 Tryd.underlying29 hi0 hz0 hz1 hz2 u7 cs.length _ R5.own ⟨w5.heap.size, 0, none⟩ 1 1 c5.cells.toList (by omega) rfl (nd_cells _ _) (nd_one _) (by unfold maxLen; omega) (by omega) hrun6; have R6 : Hid (Rw w6 w.heap.size v6 (l ++ [x]) (cs ++ [c5])) := R5.app hown6 hgrow6 hblk (nd5.keep (fun y hy hl => ⟨by omega, fun e => by have := hb9 y e; omega⟩) (by simp) (fun y hy hl => ((Below.refl _ _).alloc (Nat.le_refl _) _).block y hl)); have S6 : Hid (St w w6 b g cap L i5 o ∧ r = L.drop i5 ∧ j + 1 < i5) := ⟨((A3.out.1.next s5).alloc _).grow bl gl R5.own hgrow6, ht5, hi5⟩; rw [appN_seal] at hrun6; clear hown6 hgrow6 hblk R5 nd5 s5 ht5 hi5))
          have LN : LpR_parameters part w w6 b g cap L i o s v6 R i5 := by
            have e5 := S6.out.2.1
            have e6 := S6.out.2.2
            have e7 := S6.out.1.rd.il
            refine ⟨l ++ [x], cs ++ [c5], f2, ?_, by omega, by omega, S6.out.1, R6.out, by simp, by simp; omega⟩
            have := HR.out
            rw [e5, List.tail_drop] at this
            exact this
          have e6 := S6.out.2.2
          go_roundg g'
          case measure => omega
          case rel => exact ⟨i5, LN, by omega⟩
      · rw [if_neg hk] at hrun
        have HR : Hid (R = .ok (lst l) (L.drop j)) := hrun.symm
        have FN := found_no wr b g cap L j o AJ.out.1.rd s hk
        clear hrun hk
        go_wp2_with (go_at_call 32; refine FN.mono ?_; rintro e w3 ⟨rfl, hb3⟩; have A3 : Hid (St w w3 b g cap L j o ∧ Rw w3 w.heap.size u7 l cs) := ⟨AJ.out.1.below hb3, AJ.out.2.step bl (gb_of_below hb3 b)⟩)
        rw [HR.out]
        have ro := A3.out.2
        rcases ro.own.2 with ⟨_, hz⟩ | ⟨g2, cp, cur, rfl, h1, h2, _⟩
        · omega
        · rw [hcl] at ro ⊢
          go_ret
          exact ⟨g2, cp, j, rfl, rfl, hij, A3.out.1, by have := kids_from ro l.length 0 rfl (Nat.zero_le _); rw [List.drop_zero] at this; exact this, (Array.getElem?_eq_some_iff.1 h2).1, h1, cs, ro, hl0, hlj⟩
end Go.Proofs.YtllhcjmabhempaaDoor
