/-
  Layer 9: sections.
  Layer 9: headings; imports.
  Layer 9: imports.
  Layer 9: a row behind a node's kids.
-/
import Derived.Test.YtllhcjmabhempaaDoorMTyp
import Derived.Deep.DeepCutAuto
import Derived.Test.YtllhcjmabhempaaDoorPms
import Derived.Maps.AppendAt
namespace Go.Proofs.YtllhcjmabhempaaDoor
set_option linter.unusedVariables false
set_option linter.unusedSimpArgs false
open Go.ChangeShapes Go.WideShapes Go.ChangeAt Go.RowKit


attribute [local go_sem] fieldTk0 fieldTk1 fieldTk3 hmf
attribute [local go_sem ↓] bslNd_seal
attribute [local go_sem] bslNd1_run bslNd2_run
attribute [local go_sem ↓] appN_seal

/-- What a function leaves that answers a row, which may have none. -/
def PostM (w : World) (b g cap : Nat) (L : List Tok) (i o : Nat) (r : Rs Nd) (e : Ending) (w' : World) : Prop := match r with
  | .ok n t => ∃ a N m i' cs, e = .returned (.slice a N m) ∧ t = L.drop i' ∧ i ≤ i' ∧ St w w' b g cap L i' o ∧ Rw w' w.heap.size (.slice a N m) n.kids cs ∧ n.kids.length ≤ i'
  | .bad p er => e = gaveUp p er ∧ w.grownBy w' (some b)
theorem postM_or {w w' : World} {b g cap i o : Nat} {L : List Tok} {R : Rs Nd} {e : Ending} (hP : PostM w b g cap L i o R e w') :
    (∃ n t a N m i' cs, R = .ok n t ∧ e = .returned (.slice a N m) ∧ t = L.drop i' ∧ i ≤ i' ∧ St w w' b g cap L i' o ∧ Rw w' w.heap.size (.slice a N m) n.kids cs ∧ n.kids.length ≤ i') ∨ (∃ p er, R = .bad p er ∧ e = gaveUp p er ∧ w.grownBy w' (some b)) := by
  cases R with
  | ok n t => obtain ⟨a, N, m, i', cs, h⟩ := hP; exact .inl ⟨n, t, a, N, m, i', cs, rfl, h⟩
  | bad p er => exact .inr ⟨p, er, rfl, hP⟩
/-- .. with no more trees than tokens passed. -/
def PostK (w : World) (b g cap : Nat) (L : List Tok) (i o : Nat) (r : Rs Nd) (e : Ending) (w' : World) : Prop := match r with
  | .ok n t => ∃ a N m i' cs, e = .returned (.slice a N m) ∧ t = L.drop i' ∧ i ≤ i' ∧ St w w' b g cap L i' o ∧ Rw w' w.heap.size (.slice a N m) n.kids cs ∧ n.kids.length + i ≤ i'
  | .bad p er => e = gaveUp p er ∧ w.grownBy w' (some b)
theorem postK_or {w w' : World} {b g cap i o : Nat} {L : List Tok} {R : Rs Nd} {e : Ending} (hP : PostK w b g cap L i o R e w') :
    (∃ n t a N m i' cs, R = .ok n t ∧ e = .returned (.slice a N m) ∧ t = L.drop i' ∧ i ≤ i' ∧ St w w' b g cap L i' o ∧ Rw w' w.heap.size (.slice a N m) n.kids cs ∧ n.kids.length + i ≤ i') ∨ (∃ p er, R = .bad p er ∧ e = gaveUp p er ∧ w.grownBy w' (some b)) := by
  cases R with
  | ok n t => obtain ⟨a, N, m, i', cs, h⟩ := hP; exact .inl ⟨n, t, a, N, m, i', cs, rfl, h⟩
  | bad p er => exact .inr ⟨p, er, rfl, hP⟩
theorem Rw.nul (X : World) (B : Nat) : Rw X B (.slice none 0 0) [] [] := ⟨rfl, ⟨rfl, .inl ⟨rfl, rfl⟩⟩, fun j h => absurd h (by simp)⟩
/-- What the loop over declarations keeps. -/
def LpM (part : List Tok → Rs Nd) (w X : World) (b g cap : Nat) (L : List Tok) (i o : Nat) (R : Rs Nd) (v : Value) (gf : Nat) : Prop := ∃ j l cs f1, manyR part (f1 + 1) l (L.drop j) = R ∧ L.length ≤ j + f1 ∧ i ≤ j ∧ St w X b g cap L j o ∧ Rw X w.heap.size v l cs ∧ l.length + i ≤ j ∧ L.length - j ≤ gf
set_option maxHeartbeats 8000000 in
set_option maxRecDepth 20000 in
theorem section_constant (part : List Tok → Rs Nd) (key : Bs) (hkey : key ≠ []) (w : World) (b g cap : Nat) (L : List Tok) (i o : Nat) (h : RdAt w b g cap L i o) (hP : ∀ X j, i < j → RdAt X b g cap L j o → Calls Tryd.prog 36 #[.pointer (some ⟨b, 0, none⟩)] X (PostN X b g cap L j o (part (L.drop j)))) :
    Calls Tryd.prog 35 #[.pointer (some ⟨b, 0, none⟩), .string (bs key), .func (.func 36) #[.pointer (some ⟨b, 0, none⟩)] #[]] w (PostK w b g cap L i o (sectR key part (L.drop i))) := by
  have bl := h.bl
  have gl := h.gl
  have hil := h.il
  have hll := h.ll
  have H : Hid (RdAt w b g cap L i o) := h
  have HP : Hid (∀ X j, i < j → RdAt X b g cap L j o → Calls Tryd.prog 36 #[.pointer (some ⟨b, 0, none⟩)] X (PostN X b g cap L j o (part (L.drop j)))) := hP
  obtain ⟨i0, hi0, hz0, hz1, hz2⟩ := info_parts infoNd
  clear hP h
  unfold sectR
  by_cases hw : wd (L.drop i) = key
  · rw [if_pos hw, List.tail_drop]
    have FY := found_yes w b g cap L i o H.out key hkey hw
    clear hw
    generalize hR : manyR part ((L.drop i).length + 1) [] (L.drop (i + 1)) = R
    have HR : Hid (manyR part ((L.drop i).length + 1) [] (L.drop (i + 1)) = R) := hR
    clear hR
    go_enter Tryd.func35, Tryd.ntmps35
    go_wp2_with (go_at_call 32; refine FY.mono ?_; rintro e w1 ⟨rfl, s1⟩; have A1 : Hid (St w w1 b g cap L (i + 1) o) := s1)
    go_loopg [7] L.length (fun gf s7 X => LpM part w X b g cap L (i + 1) o R s7 gf)
    case atStart => exact ⟨i + 1, [], [], (L.drop i).length, HR.out, by rw [List.length_drop]; omega, Nat.le_refl _, A1.out, Rw.nul _ _, by simp, by omega⟩
    case round =>
      obtain ⟨j, l, cs, f1, hrun, hfu, hij, SJ, RW, hlj, hg⟩ := hrel
      have hjl := SJ.rd.il
      have hsz := SJ.size
      have AJ : Hid (St w wr b g cap L j o ∧ Rw wr w.heap.size u7 l cs) := ⟨SJ, RW⟩
      have hcl : cs.length = l.length := RW.len
      rw [manyR] at hrun
      have HRj : Hid ((if (hd (L.drop j)).k = 1 then (part (L.drop j)).bind fun x r => (mustR [59] r).bind fun _ u => manyR part f1 (l ++ [x]) u else .ok (lst l) (L.drop j)) = R) := hrun
      clear SJ RW hrun FY A1 s1 HR
      have ek : (hd (L.drop j)).tk.k = (hd (L.drop j)).k := rfl
      have hb9 : ∀ q, u7.ownBlock = some q → q < wr.heap.size := fun q hq => (own_lt' AJ.out.2.own hq).1
      by_cases hk : (hd (L.drop j)).k = 1
      · have e1 : ((hd (L.drop j)).k == 1) = true := by simpa using hk
        have HRk : Hid (((part (L.drop j)).bind fun x r => (mustR [59] r).bind fun _ u => manyR part f1 (l ++ [x]) u) = R) := by have := HRj.out; rwa [if_pos hk] at this
        clear hk HRj
        go_wp2_with (first
          | (go_at_call 28; refine (here_any _ b g cap L j o AJ.out.1.rd).mono ?_; rintro e w3 ⟨rfl, hb3⟩; have hs3 := hb3.size; have A3 : Hid (St w w3 b g cap L j o ∧ Rw w3 w.heap.size u7 l cs) := ⟨AJ.out.1.below hb3, AJ.out.2.step bl (gb_of_below hb3 b)⟩)
          | (go_at_call 36; refine (HP.out _ j (by omega) A3.out.1.rd).mono ?_; intro e w5 hP; rcases postN_or hP with ⟨x, r, c5, i5, hy, rfl, ht5, hi5, s5, nd5⟩ | ⟨p5, er5, hy, he, g5⟩ <;> first
            | (have hs5 := s5.size; have R5 : Rw (w5.alloc (.cells c5.cells 31)) w.heap.size u7 l cs := (A3.out.2.step bl s5.gb).step bl (gb_of_below (by go_grown) b); have hi5l := s5.rd.il; obtain ⟨v6, w6, hrun6, hown6, hgrow6, _⟩ := run_append_own (P := Tryd.prog) (w := w5.alloc (.cells c5.cells 31)) w.heap.size 29 29 31 i0 _ 6 72 Tryd.underlying29 hi0 hz0 hz1 hz2 rfl (by decide) u7 cs.length _ R5.own ⟨w5.heap.size, 0, none⟩ 1 1 c5.cells.toList rfl (nd_cells _ _) (nd_one _) (by unfold maxLen; omega) (by omega) (by simp; omega); have hblk := append_block (P := Tryd.prog) (w := w5.alloc (.cells c5.cells 31)) w.heap.size 29 29 31 i0 _ 6 72 Tryd.underlying29 hi0 hz0 hz1 hz2 u7 cs.length _ R5.own ⟨w5.heap.size, 0, none⟩ 1 1 c5.cells.toList (by omega) rfl (nd_cells _ _) (nd_one _) (by unfold maxLen; omega) (by omega) hrun6; have R6 : Hid (Rw w6 w.heap.size v6 (l ++ [x]) (cs ++ [c5])) := R5.app hown6 hgrow6 hblk (nd5.keep (fun y hy hl => ⟨by omega, fun e => by have := hb9 y e; omega⟩) (by simp) (fun y hy hl => ((Below.refl _ _).alloc (Nat.le_refl _) _).block y hl)); have S6 : Hid (St w w6 b g cap L i5 o ∧ j < i5 ∧ ((mustR [59] (L.drop i5)).bind fun _ u => manyR part f1 (l ++ [x]) u) = R) := ⟨((A3.out.1.next s5).alloc _).grow bl gl R5.own hgrow6, hi5, by rw [← HRk.out, hy, Rs.bind_ok, ht5]⟩; rw [appN_seal] at hrun6; clear hown6 hgrow6 hblk R5 nd5 s5 ht5 hi5 hP)
            | (unfold gaveUp at he; subst he; have G5 : Hid (R = .bad p5 er5 ∧ w.grownBy w5 (some b)) := ⟨by rw [← HRk.out, hy, Rs.bind_bad], gb_trans A3.out.1.gb g5⟩; clear hy hP))
          | (go_at_call 30; refine (must_any _ b g cap L i5 o S6.out.1.rd [59] (by decide)).mono ?_; intro e w7 hP; rcases postT_or hP with ⟨x7, u7x, hm7, rfl, ht7, s7⟩ | ⟨p7, er7, hm7, he, g7⟩ <;> first
            | (have hs7 := s7.size; have il7 := s7.rd.il; have i56 := S6.out.2.1; obtain ⟨f2, hf2⟩ : ∃ f2, f1 = f2 + 1 := ⟨f1 - 1, by omega⟩; have K7 : Hid (∀ gf, L.length - (i5 + 1) ≤ gf → LpM part w w7 b g cap L (i + 1) o R v6 gf) := (fun gf hgf => ⟨i5 + 1, l ++ [x], cs ++ [c5], f2, (by rw [← S6.out.2.2, hm7, Rs.bind_ok, ht7, hf2]), by omega, by omega, S6.out.1.next s7, R6.out.step bl s7.gb, by simp; omega, hgf⟩); clear hP hm7 ht7 s7 hf2)
            | (unfold gaveUp at he; subst he; have G5 : Hid (R = .bad p7 er7 ∧ w.grownBy w7 (some b)) := ⟨by rw [← S6.out.2.2, hm7, Rs.bind_bad], gb_trans S6.out.1.gb g7⟩; clear hm7 hP)))
        all_goals first
          | (rw [G5.out.1]; exact ⟨rfl, rfl, G5.out.2⟩)
          | (have hK := K7.out
             have i56 := S6.out.2.1
             obtain ⟨g', rfl⟩ : ∃ g', gk = g' + 1 := ⟨gk - 1, by omega⟩
             go_roundg g'
             case measure => omega
             case rel => exact hK _ (by omega))
      · have e1 : ((hd (L.drop j)).k == 1) = false := by simpa using hk
        have HRk : Hid (.ok (lst l) (L.drop j) = R) := by have := HRj.out; rwa [if_neg hk] at this
        clear hk HRj
        go_wp2_with (go_at_call 28; refine (here_any _ b g cap L j o AJ.out.1.rd).mono ?_; rintro e w3 ⟨rfl, hb3⟩; have hs3 := hb3.size; have A3 : Hid (St w w3 b g cap L j o ∧ Rw w3 w.heap.size u7 l cs) := ⟨AJ.out.1.below hb3, AJ.out.2.step bl (gb_of_below hb3 b)⟩)
        rw [← HRk.out]
        have ro := A3.out.2
        rcases ro.own.2 with ⟨rfl, hz⟩ | ⟨g2, cp, cur, rfl, h1, h2, _⟩
        · go_ret
          exact ⟨none, 0, 0, j, cs, rfl, rfl, by omega, A3.out.1, ro, by show l.length + i ≤ j; omega⟩
        · go_ret
          exact ⟨_, _, _, j, cs, rfl, rfl, by omega, A3.out.1, ro, by show l.length + i ≤ j; omega⟩
  · rw [if_neg hw]
    have FN := found_no w b g cap L i o H.out key hw
    clear hw
    go_enter Tryd.func35, Tryd.ntmps35
    go_wp2_with (go_at_call 32; refine FN.mono ?_; rintro e w1 ⟨rfl, hb1⟩; have A1 : Hid (St w w1 b g cap L i o) := (St.refl H.out).below hb1)
    go_ret
    exact ⟨none, 0, 0, i, [], rfl, rfl, Nat.le_refl _, A1.out, Rw.nul _ _, by simp [lst, Nd.kids]⟩
set_option maxHeartbeats 8000000 in
set_option maxRecDepth 20000 in
theorem section_typeNamed (part : List Tok → Rs Nd) (key : Bs) (hkey : key ≠ []) (w : World) (b g cap : Nat) (L : List Tok) (i o : Nat) (h : RdAt w b g cap L i o) (hP : ∀ X j, i < j → RdAt X b g cap L j o → Calls Tryd.prog 37 #[.pointer (some ⟨b, 0, none⟩)] X (PostN X b g cap L j o (part (L.drop j)))) :
    Calls Tryd.prog 35 #[.pointer (some ⟨b, 0, none⟩), .string (bs key), .func (.func 37) #[.pointer (some ⟨b, 0, none⟩)] #[]] w (PostK w b g cap L i o (sectR key part (L.drop i))) := by
  have bl := h.bl
  have gl := h.gl
  have hil := h.il
  have hll := h.ll
  have H : Hid (RdAt w b g cap L i o) := h
  have HP : Hid (∀ X j, i < j → RdAt X b g cap L j o → Calls Tryd.prog 37 #[.pointer (some ⟨b, 0, none⟩)] X (PostN X b g cap L j o (part (L.drop j)))) := hP
  obtain ⟨i0, hi0, hz0, hz1, hz2⟩ := info_parts infoNd
  clear hP h
  unfold sectR
  by_cases hw : wd (L.drop i) = key
  · rw [if_pos hw, List.tail_drop]
    have FY := found_yes w b g cap L i o H.out key hkey hw
    clear hw
    generalize hR : manyR part ((L.drop i).length + 1) [] (L.drop (i + 1)) = R
    have HR : Hid (manyR part ((L.drop i).length + 1) [] (L.drop (i + 1)) = R) := hR
    clear hR
    go_enter Tryd.func35, Tryd.ntmps35
    go_wp2_with (go_at_call 32; refine FY.mono ?_; rintro e w1 ⟨rfl, s1⟩; have A1 : Hid (St w w1 b g cap L (i + 1) o) := s1)
    go_loopg [7] L.length (fun gf s7 X => LpM part w X b g cap L (i + 1) o R s7 gf)
    case atStart => exact ⟨i + 1, [], [], (L.drop i).length, HR.out, by rw [List.length_drop]; omega, Nat.le_refl _, A1.out, Rw.nul _ _, by simp, by omega⟩
    case round =>
      obtain ⟨j, l, cs, f1, hrun, hfu, hij, SJ, RW, hlj, hg⟩ := hrel
      have hjl := SJ.rd.il
      have hsz := SJ.size
      have AJ : Hid (St w wr b g cap L j o ∧ Rw wr w.heap.size u7 l cs) := ⟨SJ, RW⟩
      have hcl : cs.length = l.length := RW.len
      rw [manyR] at hrun
      have HRj : Hid ((if (hd (L.drop j)).k = 1 then (part (L.drop j)).bind fun x r => (mustR [59] r).bind fun _ u => manyR part f1 (l ++ [x]) u else .ok (lst l) (L.drop j)) = R) := hrun
      clear SJ RW hrun FY A1 s1 HR
      have ek : (hd (L.drop j)).tk.k = (hd (L.drop j)).k := rfl
      have hb9 : ∀ q, u7.ownBlock = some q → q < wr.heap.size := fun q hq => (own_lt' AJ.out.2.own hq).1
      by_cases hk : (hd (L.drop j)).k = 1
      · have e1 : ((hd (L.drop j)).k == 1) = true := by simpa using hk
        have HRk : Hid (((part (L.drop j)).bind fun x r => (mustR [59] r).bind fun _ u => manyR part f1 (l ++ [x]) u) = R) := by have := HRj.out; rwa [if_pos hk] at this
        clear hk HRj
        go_wp2_with (first
          | (go_at_call 28; refine (here_any _ b g cap L j o AJ.out.1.rd).mono ?_; rintro e w3 ⟨rfl, hb3⟩; have hs3 := hb3.size; have A3 : Hid (St w w3 b g cap L j o ∧ Rw w3 w.heap.size u7 l cs) := ⟨AJ.out.1.below hb3, AJ.out.2.step bl (gb_of_below hb3 b)⟩)
          | (go_at_call 37; refine (HP.out _ j (by omega) A3.out.1.rd).mono ?_; intro e w5 hP; rcases postN_or hP with ⟨x, r, c5, i5, hy, rfl, ht5, hi5, s5, nd5⟩ | ⟨p5, er5, hy, he, g5⟩ <;> first
            | (have hs5 := s5.size; have R5 : Rw (w5.alloc (.cells c5.cells 31)) w.heap.size u7 l cs := (A3.out.2.step bl s5.gb).step bl (gb_of_below (by go_grown) b); have hi5l := s5.rd.il; obtain ⟨v6, w6, hrun6, hown6, hgrow6, _⟩ := run_append_own (P := Tryd.prog) (w := w5.alloc (.cells c5.cells 31)) w.heap.size 29 29 31 i0 _ 6 72 Tryd.underlying29 hi0 hz0 hz1 hz2 rfl (by decide) u7 cs.length _ R5.own ⟨w5.heap.size, 0, none⟩ 1 1 c5.cells.toList rfl (nd_cells _ _) (nd_one _) (by unfold maxLen; omega) (by omega) (by simp; omega); have hblk := append_block (P := Tryd.prog) (w := w5.alloc (.cells c5.cells 31)) w.heap.size 29 29 31 i0 _ 6 72 Tryd.underlying29 hi0 hz0 hz1 hz2 u7 cs.length _ R5.own ⟨w5.heap.size, 0, none⟩ 1 1 c5.cells.toList (by omega) rfl (nd_cells _ _) (nd_one _) (by unfold maxLen; omega) (by omega) hrun6; have R6 : Hid (Rw w6 w.heap.size v6 (l ++ [x]) (cs ++ [c5])) := R5.app hown6 hgrow6 hblk (nd5.keep (fun y hy hl => ⟨by omega, fun e => by have := hb9 y e; omega⟩) (by simp) (fun y hy hl => ((Below.refl _ _).alloc (Nat.le_refl _) _).block y hl)); have S6 : Hid (St w w6 b g cap L i5 o ∧ j < i5 ∧ ((mustR [59] (L.drop i5)).bind fun _ u => manyR part f1 (l ++ [x]) u) = R) := ⟨((A3.out.1.next s5).alloc _).grow bl gl R5.own hgrow6, hi5, by rw [← HRk.out, hy, Rs.bind_ok, ht5]⟩; rw [appN_seal] at hrun6; clear hown6 hgrow6 hblk R5 nd5 s5 ht5 hi5 hP)
            | (unfold gaveUp at he; subst he; have G5 : Hid (R = .bad p5 er5 ∧ w.grownBy w5 (some b)) := ⟨by rw [← HRk.out, hy, Rs.bind_bad], gb_trans A3.out.1.gb g5⟩; clear hy hP))
          | (go_at_call 30; refine (must_any _ b g cap L i5 o S6.out.1.rd [59] (by decide)).mono ?_; intro e w7 hP; rcases postT_or hP with ⟨x7, u7x, hm7, rfl, ht7, s7⟩ | ⟨p7, er7, hm7, he, g7⟩ <;> first
            | (have hs7 := s7.size; have il7 := s7.rd.il; have i56 := S6.out.2.1; obtain ⟨f2, hf2⟩ : ∃ f2, f1 = f2 + 1 := ⟨f1 - 1, by omega⟩; have K7 : Hid (∀ gf, L.length - (i5 + 1) ≤ gf → LpM part w w7 b g cap L (i + 1) o R v6 gf) := (fun gf hgf => ⟨i5 + 1, l ++ [x], cs ++ [c5], f2, (by rw [← S6.out.2.2, hm7, Rs.bind_ok, ht7, hf2]), by omega, by omega, S6.out.1.next s7, R6.out.step bl s7.gb, by simp; omega, hgf⟩); clear hP hm7 ht7 s7 hf2)
            | (unfold gaveUp at he; subst he; have G5 : Hid (R = .bad p7 er7 ∧ w.grownBy w7 (some b)) := ⟨by rw [← S6.out.2.2, hm7, Rs.bind_bad], gb_trans S6.out.1.gb g7⟩; clear hm7 hP)))
        all_goals first
          | (rw [G5.out.1]; exact ⟨rfl, rfl, G5.out.2⟩)
          | (have hK := K7.out
             have i56 := S6.out.2.1
             obtain ⟨g', rfl⟩ : ∃ g', gk = g' + 1 := ⟨gk - 1, by omega⟩
             go_roundg g'
             case measure => omega
             case rel => exact hK _ (by omega))
      · have e1 : ((hd (L.drop j)).k == 1) = false := by simpa using hk
        have HRk : Hid (.ok (lst l) (L.drop j) = R) := by have := HRj.out; rwa [if_neg hk] at this
        clear hk HRj
        go_wp2_with (go_at_call 28; refine (here_any _ b g cap L j o AJ.out.1.rd).mono ?_; rintro e w3 ⟨rfl, hb3⟩; have hs3 := hb3.size; have A3 : Hid (St w w3 b g cap L j o ∧ Rw w3 w.heap.size u7 l cs) := ⟨AJ.out.1.below hb3, AJ.out.2.step bl (gb_of_below hb3 b)⟩)
        rw [← HRk.out]
        have ro := A3.out.2
        rcases ro.own.2 with ⟨rfl, hz⟩ | ⟨g2, cp, cur, rfl, h1, h2, _⟩
        · go_ret
          exact ⟨none, 0, 0, j, cs, rfl, rfl, by omega, A3.out.1, ro, by show l.length + i ≤ j; omega⟩
        · go_ret
          exact ⟨_, _, _, j, cs, rfl, rfl, by omega, A3.out.1, ro, by show l.length + i ≤ j; omega⟩
  · rw [if_neg hw]
    have FN := found_no w b g cap L i o H.out key hw
    clear hw
    go_enter Tryd.func35, Tryd.ntmps35
    go_wp2_with (go_at_call 32; refine FN.mono ?_; rintro e w1 ⟨rfl, hb1⟩; have A1 : Hid (St w w1 b g cap L i o) := (St.refl H.out).below hb1)
    go_ret
    exact ⟨none, 0, 0, i, [], rfl, rfl, Nat.le_refl _, A1.out, Rw.nul _ _, by simp [lst, Nd.kids]⟩
set_option maxHeartbeats 8000000 in
set_option maxRecDepth 20000 in
theorem section_variables (part : List Tok → Rs Nd) (key : Bs) (hkey : key ≠ []) (w : World) (b g cap : Nat) (L : List Tok) (i o : Nat) (h : RdAt w b g cap L i o) (hP : ∀ X j, i < j → RdAt X b g cap L j o → Calls Tryd.prog 38 #[.pointer (some ⟨b, 0, none⟩)] X (PostN X b g cap L j o (part (L.drop j)))) :
    Calls Tryd.prog 35 #[.pointer (some ⟨b, 0, none⟩), .string (bs key), .func (.func 38) #[.pointer (some ⟨b, 0, none⟩)] #[]] w (PostK w b g cap L i o (sectR key part (L.drop i))) := by
  have bl := h.bl
  have gl := h.gl
  have hil := h.il
  have hll := h.ll
  have H : Hid (RdAt w b g cap L i o) := h
  have HP : Hid (∀ X j, i < j → RdAt X b g cap L j o → Calls Tryd.prog 38 #[.pointer (some ⟨b, 0, none⟩)] X (PostN X b g cap L j o (part (L.drop j)))) := hP
  obtain ⟨i0, hi0, hz0, hz1, hz2⟩ := info_parts infoNd
  clear hP h
  unfold sectR
  by_cases hw : wd (L.drop i) = key
  · rw [if_pos hw, List.tail_drop]
    have FY := found_yes w b g cap L i o H.out key hkey hw
    clear hw
    generalize hR : manyR part ((L.drop i).length + 1) [] (L.drop (i + 1)) = R
    have HR : Hid (manyR part ((L.drop i).length + 1) [] (L.drop (i + 1)) = R) := hR
    clear hR
    go_enter Tryd.func35, Tryd.ntmps35
    go_wp2_with (go_at_call 32; refine FY.mono ?_; rintro e w1 ⟨rfl, s1⟩; have A1 : Hid (St w w1 b g cap L (i + 1) o) := s1)
    go_loopg [7] L.length (fun gf s7 X => LpM part w X b g cap L (i + 1) o R s7 gf)
    case atStart => exact ⟨i + 1, [], [], (L.drop i).length, HR.out, by rw [List.length_drop]; omega, Nat.le_refl _, A1.out, Rw.nul _ _, by simp, by omega⟩
    case round =>
      obtain ⟨j, l, cs, f1, hrun, hfu, hij, SJ, RW, hlj, hg⟩ := hrel
      have hjl := SJ.rd.il
      have hsz := SJ.size
      have AJ : Hid (St w wr b g cap L j o ∧ Rw wr w.heap.size u7 l cs) := ⟨SJ, RW⟩
      have hcl : cs.length = l.length := RW.len
      rw [manyR] at hrun
      have HRj : Hid ((if (hd (L.drop j)).k = 1 then (part (L.drop j)).bind fun x r => (mustR [59] r).bind fun _ u => manyR part f1 (l ++ [x]) u else .ok (lst l) (L.drop j)) = R) := hrun
      clear SJ RW hrun FY A1 s1 HR
      have ek : (hd (L.drop j)).tk.k = (hd (L.drop j)).k := rfl
      have hb9 : ∀ q, u7.ownBlock = some q → q < wr.heap.size := fun q hq => (own_lt' AJ.out.2.own hq).1
      by_cases hk : (hd (L.drop j)).k = 1
      · have e1 : ((hd (L.drop j)).k == 1) = true := by simpa using hk
        have HRk : Hid (((part (L.drop j)).bind fun x r => (mustR [59] r).bind fun _ u => manyR part f1 (l ++ [x]) u) = R) := by have := HRj.out; rwa [if_pos hk] at this
        clear hk HRj
        go_wp2_with (first
          | (go_at_call 28; refine (here_any _ b g cap L j o AJ.out.1.rd).mono ?_; rintro e w3 ⟨rfl, hb3⟩; have hs3 := hb3.size; have A3 : Hid (St w w3 b g cap L j o ∧ Rw w3 w.heap.size u7 l cs) := ⟨AJ.out.1.below hb3, AJ.out.2.step bl (gb_of_below hb3 b)⟩)
          | (go_at_call 38; refine (HP.out _ j (by omega) A3.out.1.rd).mono ?_; intro e w5 hP; rcases postN_or hP with ⟨x, r, c5, i5, hy, rfl, ht5, hi5, s5, nd5⟩ | ⟨p5, er5, hy, he, g5⟩ <;> first
            | (have hs5 := s5.size; have R5 : Rw (w5.alloc (.cells c5.cells 31)) w.heap.size u7 l cs := (A3.out.2.step bl s5.gb).step bl (gb_of_below (by go_grown) b); have hi5l := s5.rd.il; obtain ⟨v6, w6, hrun6, hown6, hgrow6, _⟩ := run_append_own (P := Tryd.prog) (w := w5.alloc (.cells c5.cells 31)) w.heap.size 29 29 31 i0 _ 6 72 Tryd.underlying29 hi0 hz0 hz1 hz2 rfl (by decide) u7 cs.length _ R5.own ⟨w5.heap.size, 0, none⟩ 1 1 c5.cells.toList rfl (nd_cells _ _) (nd_one _) (by unfold maxLen; omega) (by omega) (by simp; omega); have hblk := append_block (P := Tryd.prog) (w := w5.alloc (.cells c5.cells 31)) w.heap.size 29 29 31 i0 _ 6 72 Tryd.underlying29 hi0 hz0 hz1 hz2 u7 cs.length _ R5.own ⟨w5.heap.size, 0, none⟩ 1 1 c5.cells.toList (by omega) rfl (nd_cells _ _) (nd_one _) (by unfold maxLen; omega) (by omega) hrun6; have R6 : Hid (Rw w6 w.heap.size v6 (l ++ [x]) (cs ++ [c5])) := R5.app hown6 hgrow6 hblk (nd5.keep (fun y hy hl => ⟨by omega, fun e => by have := hb9 y e; omega⟩) (by simp) (fun y hy hl => ((Below.refl _ _).alloc (Nat.le_refl _) _).block y hl)); have S6 : Hid (St w w6 b g cap L i5 o ∧ j < i5 ∧ ((mustR [59] (L.drop i5)).bind fun _ u => manyR part f1 (l ++ [x]) u) = R) := ⟨((A3.out.1.next s5).alloc _).grow bl gl R5.own hgrow6, hi5, by rw [← HRk.out, hy, Rs.bind_ok, ht5]⟩; rw [appN_seal] at hrun6; clear hown6 hgrow6 hblk R5 nd5 s5 ht5 hi5 hP)
            | (unfold gaveUp at he; subst he; have G5 : Hid (R = .bad p5 er5 ∧ w.grownBy w5 (some b)) := ⟨by rw [← HRk.out, hy, Rs.bind_bad], gb_trans A3.out.1.gb g5⟩; clear hy hP))
          | (go_at_call 30; refine (must_any _ b g cap L i5 o S6.out.1.rd [59] (by decide)).mono ?_; intro e w7 hP; rcases postT_or hP with ⟨x7, u7x, hm7, rfl, ht7, s7⟩ | ⟨p7, er7, hm7, he, g7⟩ <;> first
            | (have hs7 := s7.size; have il7 := s7.rd.il; have i56 := S6.out.2.1; obtain ⟨f2, hf2⟩ : ∃ f2, f1 = f2 + 1 := ⟨f1 - 1, by omega⟩; have K7 : Hid (∀ gf, L.length - (i5 + 1) ≤ gf → LpM part w w7 b g cap L (i + 1) o R v6 gf) := (fun gf hgf => ⟨i5 + 1, l ++ [x], cs ++ [c5], f2, (by rw [← S6.out.2.2, hm7, Rs.bind_ok, ht7, hf2]), by omega, by omega, S6.out.1.next s7, R6.out.step bl s7.gb, by simp; omega, hgf⟩); clear hP hm7 ht7 s7 hf2)
            | (unfold gaveUp at he; subst he; have G5 : Hid (R = .bad p7 er7 ∧ w.grownBy w7 (some b)) := ⟨by rw [← S6.out.2.2, hm7, Rs.bind_bad], gb_trans S6.out.1.gb g7⟩; clear hm7 hP)))
        all_goals first
          | (rw [G5.out.1]; exact ⟨rfl, rfl, G5.out.2⟩)
          | (have hK := K7.out
             have i56 := S6.out.2.1
             obtain ⟨g', rfl⟩ : ∃ g', gk = g' + 1 := ⟨gk - 1, by omega⟩
             go_roundg g'
             case measure => omega
             case rel => exact hK _ (by omega))
      · have e1 : ((hd (L.drop j)).k == 1) = false := by simpa using hk
        have HRk : Hid (.ok (lst l) (L.drop j) = R) := by have := HRj.out; rwa [if_neg hk] at this
        clear hk HRj
        go_wp2_with (go_at_call 28; refine (here_any _ b g cap L j o AJ.out.1.rd).mono ?_; rintro e w3 ⟨rfl, hb3⟩; have hs3 := hb3.size; have A3 : Hid (St w w3 b g cap L j o ∧ Rw w3 w.heap.size u7 l cs) := ⟨AJ.out.1.below hb3, AJ.out.2.step bl (gb_of_below hb3 b)⟩)
        rw [← HRk.out]
        have ro := A3.out.2
        rcases ro.own.2 with ⟨rfl, hz⟩ | ⟨g2, cp, cur, rfl, h1, h2, _⟩
        · go_ret
          exact ⟨none, 0, 0, j, cs, rfl, rfl, by omega, A3.out.1, ro, by show l.length + i ≤ j; omega⟩
        · go_ret
          exact ⟨_, _, _, j, cs, rfl, rfl, by omega, A3.out.1, ro, by show l.length + i ≤ j; omega⟩
  · rw [if_neg hw]
    have FN := found_no w b g cap L i o H.out key hw
    clear hw
    go_enter Tryd.func35, Tryd.ntmps35
    go_wp2_with (go_at_call 32; refine FN.mono ?_; rintro e w1 ⟨rfl, hb1⟩; have A1 : Hid (St w w1 b g cap L i o) := (St.refl H.out).below hb1)
    go_ret
    exact ⟨none, 0, 0, i, [], rfl, rfl, Nat.le_refl _, A1.out, Rw.nul _ _, by simp [lst, Nd.kids]⟩
end Go.Proofs.YtllhcjmabhempaaDoor

namespace Go.Proofs.YtllhcjmabhempaaDoor
set_option linter.unusedVariables false
set_option linter.unusedSimpArgs false
open Go.ChangeShapes Go.WideShapes Go.ChangeAt Go.RowKit


attribute [local go_sem] fieldTk0 fieldTk1 fieldTk3 hmf
attribute [local go_sem ↓] bslNd_seal
attribute [local go_sem] bslNd1_run bslNd2_run
attribute [local go_sem ↓] appN_seal

/-- One tree more behind a row. -/
theorem Rw.push {w X X5 W : World} {b g cap : Nat} {L : List Tok} {j j5 o : Nat} {a : Option Addr} {N m : Nat} {l : List Nd} {cs : List Nc} {c5 : Nc} {n : Nd} (R : Rw X w.heap.size (.slice a N m) l cs) (S : St w X b g cap L j o) (bl : b < w.heap.size) (gl : g < w.heap.size) (s5 : St X X5 b g cap L j5 o) (nd5 : NdAt X5 (fun x => X.heap.size ≤ x) c5 n) (hj : l.length + 1 ≤ j5) (hW : W = X5.alloc (.cells c5.cells 31)) :
    ∃ g2 N2 cp Y, (appN #[29, 29] 29 #[.slice a N m, .slice (some ⟨X5.heap.size, 0, none⟩) 1 1]).run Tryd.prog W = .ok (.slice (some ⟨g2, 0, none⟩) N2 cp) Y ∧ Hid (St w Y b g cap L j5 o ∧ Rw Y w.heap.size (.slice (some ⟨g2, 0, none⟩) N2 cp) (l ++ [n]) (cs ++ [c5])) := by
  subst hW
  obtain ⟨i0, hi0, hz0, hz1, hz2⟩ := info_parts infoNd
  have hs5 := s5.size
  have hsz := S.size
  have hll := S.rd.ll
  have hjl := s5.rd.il
  have R5 : Rw (X5.alloc (.cells c5.cells 31)) w.heap.size (.slice a N m) l cs := (R.step (b := b) bl s5.gb).step (b := b) bl (gb_of_below (by go_grown) b)
  have hcl : cs.length = l.length := R.len
  obtain ⟨v6, w6, hrun6, hown6, hgrow6, _⟩ := run_append_own (P := Tryd.prog) (w := X5.alloc (.cells c5.cells 31)) w.heap.size 29 29 31 i0 _ 6 72 Tryd.underlying29 hi0 hz0 hz1 hz2 rfl (by decide) (.slice a N m) cs.length _ R5.own ⟨X5.heap.size, 0, none⟩ 1 1 c5.cells.toList rfl (nd_cells _ _) (nd_one _) (by unfold maxLen; omega) (by omega) (by simp; omega)
  have hblk := append_block (P := Tryd.prog) (w := X5.alloc (.cells c5.cells 31)) w.heap.size 29 29 31 i0 _ 6 72 Tryd.underlying29 hi0 hz0 hz1 hz2 (.slice a N m) cs.length _ R5.own ⟨X5.heap.size, 0, none⟩ 1 1 c5.cells.toList (by omega) rfl (nd_cells _ _) (nd_one _) (by unfold maxLen; omega) (by omega) hrun6
  have hb9 : ∀ x, (Value.slice a N m).ownBlock = some x → x < X.heap.size := fun x hx => (own_lt' R.own hx).1
  have R6 : Rw w6 w.heap.size v6 (l ++ [n]) (cs ++ [c5]) := R5.app hown6 hgrow6 hblk (nd5.keep (fun y hy hl => ⟨by omega, fun e => by have := hb9 y e; omega⟩) (by simp) (fun y hy hl => ((Below.refl _ _).alloc (Nat.le_refl _) _).block y hl))
  have S6 : St w w6 b g cap L j5 o := ((S.next s5).alloc _).grow bl gl R5.own hgrow6
  rcases hown6.2 with ⟨_, hz⟩ | ⟨g2, cp, cur, rfl, h1, h2, h3⟩
  · omega
  · exact ⟨g2, cs.length + 1, cp, w6, hrun6, S6, R6⟩
def hea2 (l : List Nd) (s : List Tok) : Rs Nd := if wd s = [58] then (namedR 8 s.tail).bind fun y u => .ok (lst (l ++ [y])) u else .ok (lst l) s
def hea1 (l : List Nd) (r : List Tok) : Rs Nd := (mustR [41] r).bind fun _ s => hea2 l s
theorem head_eq (t : List Tok) : headR t = if wd t = [40] then (if wd t.tail = [41] then .ok (lst []) t.tail else rowR [59] paramR (t.length + 1) [] t.tail).bind fun l r => hea1 l.kids r else .ok (lst []) t := rfl
set_option maxHeartbeats 8000000 in
set_option maxRecDepth 20000 in
theorem heading_any (w : World) (b g cap : Nat) (L : List Tok) (i o : Nat) (h : RdAt w b g cap L i o) : Calls Tryd.prog 58 #[.pointer (some ⟨b, 0, none⟩)] w (PostM w b g cap L i o (headR (L.drop i))) := by
  have bl := h.bl
  have gl := h.gl
  have hil := h.il
  have H : Hid (RdAt w b g cap L i o) := h
  rw [head_eq]
  by_cases hw : wd (L.drop i) = [40]
  · rw [if_pos hw, List.tail_drop]
    have FY := found_yes w b g cap L i o H.out [40] (by decide) hw
    have RO : Hid (∀ X, RdAt X b g cap L (i + 1) o → Calls Tryd.prog 33 #[.pointer (some ⟨b, 0, none⟩), .string (bs [59]), .func (.func 68) #[.pointer (some ⟨b, 0, none⟩)] #[]] X (PostL X b g cap L (i + 1) o (rowR [59] paramR ((L.drop i).length + 1) [] (L.drop (i + 1))))) := fun X hX =>
      row_parameters paramR (L.drop i).length X b g cap L (i + 1) o [59] (by decide) hX (by rw [List.length_drop]; omega) (fun Y j2 hj2 hY => parameters_any Y b g cap L j2 o hY)
    clear h hw
    generalize hR : ((if wd (L.drop (i + 1)) = [41] then Rs.ok (lst []) (L.drop (i + 1)) else rowR [59] paramR ((L.drop i).length + 1) [] (L.drop (i + 1))).bind fun l r => hea1 l.kids r) = R
    have HR : Hid (((if wd (L.drop (i + 1)) = [41] then Rs.ok (lst []) (L.drop (i + 1)) else rowR [59] paramR ((L.drop i).length + 1) [] (L.drop (i + 1))).bind fun l r => hea1 l.kids r) = R) := hR
    clear hR
    go_enter Tryd.func58, Tryd.ntmps58
    go_wp2_with (first
      | (go_at_call 32; have hx := FY; clear hx; refine FY.mono ?_; clear FY; rintro e w1 ⟨rfl, s1⟩; have A1 : Hid (St w w1 b g cap L (i + 1) o) := s1)
      | (go_at_call 39; refine (word_any _ b g cap L (i + 1) o A1.out.rd).mono ?_; rintro e w2 ⟨rfl, hb2⟩; have A2 : Hid (St w w2 b g cap L (i + 1) o) := A1.out.below hb2; have k2 := rk (wd (L.drop (i + 1))); by_cases hw : wd (L.drop (i + 1)) = [41] <;> first
          | (have d2 : decide (wd (L.drop (i + 1)) = [41]) = true := (by simpa using hw); obtain ⟨j3, l3, cs3, A3⟩ : ∃ j3 l3 cs3, Hid (St w w2 b g cap L j3 o ∧ Rw w2 w.heap.size (.slice none 0 0) l3 cs3 ∧ i < j3 ∧ l3.length ≤ j3 ∧ hea1 l3 (L.drop j3) = R) := ⟨i + 1, [], [], A2.out, Rw.nul _ _, by omega, by simp, by rw [← HR.out, if_pos hw, Rs.bind_ok]; rfl⟩; clear hw A2)
          | (have d2 : decide (wd (L.drop (i + 1)) = [41]) = false := (by simpa using hw); have W2 : Hid (¬ wd (L.drop (i + 1)) = [41]) := hw; clear hw))
      | (go_at_call 33; refine (RO.out _ A2.out.rd).mono ?_; intro e w3 hP; rcases postL_or hP with ⟨n3, t3, g3, m3, i3, cs3, N3, hl3, rfl, ht3, hi3, s3, ks3, hg3, hg4, R3, hl0, hlj, hN3⟩ | ⟨p3, er3, hl3, he, g3⟩ <;> first
          | (have hs3 := s3.size; have hs2 := A2.out.size; have e3 := hN3.out; obtain ⟨j3, l3, A3⟩ : ∃ j3 l3, Hid (St w w3 b g cap L j3 o ∧ Rw w3 w.heap.size (.slice (some ⟨g3, 0, none⟩) N3 m3) l3 cs3 ∧ i < j3 ∧ l3.length ≤ j3 ∧ hea1 l3 (L.drop j3) = R) := ⟨i3, n3.kids, A2.out.next s3, by rw [e3]; exact R3.mono (by omega), by omega, hlj, by rw [← HR.out, if_neg W2.out, hl3, Rs.bind_ok, ht3]⟩; clear A2 R3 ks3 s3 hP hl3 ht3 hi3 hg3 hg4 hl0 hlj hN3 e3)
          | (unfold gaveUp at he; subst he; have G3 : Hid (R = .bad p3 er3 ∧ w.grownBy w3 (some b)) := ⟨by rw [← HR.out, if_neg W2.out, hl3, Rs.bind_bad], gb_trans A2.out.gb g3⟩; clear hP hl3))
      | (go_at_call 30; refine (must_any _ b g cap L j3 o A3.out.1.rd [41] (by decide)).mono ?_; intro e w4 hP; rcases postT_or hP with ⟨x4, u4, hm4, rfl, ht4, s4⟩ | ⟨p4, er4, hm4, he, g4⟩ <;> first
          | (have hs4 := s4.size; have A4 : Hid (St w w4 b g cap L (j3 + 1) o ∧ Rw w4 w.heap.size _ l3 cs3 ∧ i < j3 ∧ l3.length ≤ j3 ∧ hea2 l3 (L.drop (j3 + 1)) = R) := ⟨A3.out.1.next s4, A3.out.2.1.step bl s4.gb, A3.out.2.2.1, A3.out.2.2.2.1, by rw [← A3.out.2.2.2.2]; unfold hea1; rw [hm4, Rs.bind_ok, ht4]⟩; clear hP hm4 ht4 s4)
          | (unfold gaveUp at he; subst he; have G3 : Hid (R = .bad p4 er4 ∧ w.grownBy w4 (some b)) := ⟨by rw [← A3.out.2.2.2.2]; unfold hea1; rw [hm4, Rs.bind_bad], gb_trans A3.out.1.gb g4⟩; clear hP hm4))
      | (go_at_call 32; have hx := A4; clear hx; by_cases hw : wd (L.drop (j3 + 1)) = [58] <;> first
          | (refine (found_yes _ b g cap L (j3 + 1) o A4.out.1.rd [58] (by decide) hw).mono ?_; rintro e w5 ⟨rfl, s5⟩; have A5 : Hid (St w w5 b g cap L (j3 + 1 + 1) o ∧ Rw w5 w.heap.size _ l3 cs3 ∧ ((namedR 8 (L.drop (j3 + 1 + 1))).bind fun y u => Rs.ok (lst (l3 ++ [y])) u) = R) := ⟨A4.out.1.next s5, A4.out.2.1.step bl s5.gb, by rw [← A4.out.2.2.2.2]; unfold hea2; rw [if_pos hw, List.tail_drop]⟩; clear hw)
          | (refine (found_no _ b g cap L (j3 + 1) o A4.out.1.rd [58] hw).mono ?_; rintro e w5 ⟨rfl, hb5⟩; have A9 : Hid (PostM w b g cap L i o R (.returned _) w5) := (by show PostM _ _ _ _ _ _ _ _ _ _; rw [← A4.out.2.2.2.2]; unfold hea2; rw [if_neg hw]; exact ⟨_, _, _, j3 + 1, cs3, rfl, rfl, by have := A4.out.2.2.1; omega, A4.out.1.below hb5, A4.out.2.1.step bl (gb_of_below hb5 b), by have := A4.out.2.2.2.1; simp [lst, Nd.kids]; omega⟩); clear hw))
      | (go_at_call 31; refine (named_any _ b g cap L (j3 + 1 + 1) o A5.out.1.rd 8).mono ?_; intro e w6 hP; rcases postN_or hP with ⟨n6, t6, c6, i6, hy6, rfl, ht6, hi6, s6, nd6⟩ | ⟨p6, er6, hy6, he, g6⟩ <;> first
          | (have hs6 := s6.size; obtain ⟨g7, N7, cp7, Y7, hrun7, F7⟩ := A5.out.2.1.push A5.out.1 bl gl s6 nd6 (by have := A4.out.2.2.2.1; omega) rfl; have A9 : Hid (PostM w b g cap L i o R (.returned (.slice (some ⟨g7, 0, none⟩) N7 cp7)) Y7) := (by show PostM _ _ _ _ _ _ _ _ _ _; rw [← A5.out.2.2, hy6, Rs.bind_ok, ht6]; exact ⟨_, _, _, i6, _, rfl, rfl, by have := A4.out.2.2.1; omega, F7.out.1, F7.out.2, by have := A4.out.2.2.2.1; simp [lst, Nd.kids]; omega⟩); clear hP hy6 ht6 s6 nd6)
          | (unfold gaveUp at he; subst he; have G3 : Hid (R = .bad p6 er6 ∧ w.grownBy w6 (some b)) := ⟨by rw [← A5.out.2.2, hy6, Rs.bind_bad], gb_trans A5.out.1.gb g6⟩; clear hP hy6)))
    all_goals first
      | (rw [G3.out.1]; exact ⟨rfl, rfl, G3.out.2⟩)
      | (go_ret; exact A9.out)
  · rw [if_neg hw]
    have FN := found_no w b g cap L i o H.out [40] hw
    clear hw
    go_enter Tryd.func58, Tryd.ntmps58
    go_wp2_with (go_at_call 32; refine FN.mono ?_; rintro e w1 ⟨rfl, hb1⟩; have A1 : Hid (St w w1 b g cap L i o) := (St.refl H.out).below hb1)
    go_ret
    exact ⟨none, 0, 0, i, [], rfl, rfl, Nat.le_refl _, A1.out, Rw.nul _ _, by simp [lst, Nd.kids]⟩
end Go.Proofs.YtllhcjmabhempaaDoor

namespace Go.Proofs.YtllhcjmabhempaaDoor
set_option linter.unusedVariables false
set_option linter.unusedSimpArgs false
open Go.ChangeShapes Go.WideShapes Go.ChangeAt Go.RowKit


attribute [local go_sem] fieldTk0 fieldTk1 fieldTk3 hmf
attribute [local go_sem ↓] bslNd_seal
attribute [local go_sem] bslNd1_run bslNd2_run
attribute [local go_sem ↓] appN_seal
set_option maxHeartbeats 8000000 in
set_option maxRecDepth 20000 in
theorem import_any (w : World) (b g cap : Nat) (L : List Tok) (i o bx : Nat) (h : RdAt w b g cap L i o) (hx : w.cell? ⟨bx, 0, none⟩ = some (.pointer (some ⟨b, 0, none⟩))) (hl : bx < w.heap.size) : Calls Tryd.prog 34 #[.pointer (some ⟨bx, 0, none⟩)] w (PostN w b g cap L i o (namedR 2 (L.drop i))) := by
  have bl := h.bl
  have gl := h.gl
  have H : Hid (RdAt w b g cap L i o) := h
  have ln : bx ≠ w.heap.size := by omega
  clear h
  generalize hR : namedR 2 (L.drop i) = R
  have HR : Hid (namedR 2 (L.drop i) = R) := hR
  clear hR
  go_enter Tryd.func34, Tryd.ntmps34
  go_wp2_with (go_at_call 31; refine (named_any _ b g cap L i o (H.out.alloc _) 2).mono ?_; intro e w3 hP; rcases postN_or hP with ⟨n3, t3, c3, i3, hy, rfl, ht3, hi3, s3, nd3⟩ | ⟨p3, er, hy, he, g3⟩ <;> first
    | (have hs3 := s3.size; simp at hs3; have m3 : roomAt w3 w.heap.size 6 = true := (s3.room (by simp) (by omega) 6).trans (roomNd_new _ _ _ _ (by simp)); have S3 : Hid (R = .ok n3 t3 ∧ St w w3 b g cap L i3 o ∧ NdAt w3 (fun x => w.heap.size + 1 ≤ x) c3 n3) := ⟨by rw [← HR.out]; exact hy, ((St.refl H.out).alloc _).next s3, nd3.mono (by simp)⟩; clear hy nd3 hP s3)
    | (unfold gaveUp at he; subst he; have G3 : Hid (R = .bad p3 er ∧ w.grownBy w3 (some b)) := ⟨by rw [← HR.out]; exact hy, gb_trans ((St.refl H.out).alloc _).gb g3⟩; clear hy hP))
  all_goals first
    | (rw [G3.out.1]; exact ⟨rfl, rfl, G3.out.2⟩)
    | (rw [S3.out.1]; exact ret_cell1 rfl rfl (loadNd_row (rowNd_put _ _ _ m3)) rfl (fin_post S3.out.2.1 bl gl hi3 ht3 S3.out.2.2))
def LpR_imports (part : List Tok → Rs Nd) (w X : World) (b g cap : Nat) (L : List Tok) (i o : Nat) (s : Bs) (v : Value) (R : Rs Nd) (j : Nat) : Prop := ∃ l cs f1, (if wd (L.drop j) = s then rowR s part f1 l (L.drop (j + 1)) else .ok (lst l) (L.drop j)) = R ∧ L.length ≤ j + f1 ∧ i < j ∧ St w X b g cap L j o ∧ Rw X w.heap.size v l cs ∧ 0 < l.length ∧ l.length ≤ j
set_option maxHeartbeats 4000000 in
set_option maxRecDepth 20000 in
theorem row_imports (part : List Tok → Rs Nd) (f : Nat) (w : World) (b g cap : Nat) (L : List Tok) (i o : Nat) (bx : Nat) (s : Bs) (hs : s ≠ []) (h : RdAt w b g cap L i o) (hf : L.length ≤ i + f) (hP : ∀ X j, i ≤ j → St w X b g cap L j o → Calls Tryd.prog 34 #[.pointer (some ⟨bx, 0, none⟩)] X (PostN X b g cap L j o (part (L.drop j)))) :
    Calls Tryd.prog 33 #[.pointer (some ⟨b, 0, none⟩), .string (bs s), .func (.func 34) #[] #[.pointer (some ⟨bx, 0, none⟩)]] w (PostL w b g cap L i o (rowR s part (f + 1) [] (L.drop i))) := by
  have bl := h.bl
  have gl := h.gl
  have hil := h.il
  have hll := h.ll
  have H : Hid (RdAt w b g cap L i o) := h
  have HP : Hid (∀ X j, i ≤ j → St w X b g cap L j o → Calls Tryd.prog 34 #[.pointer (some ⟨bx, 0, none⟩)] X (PostN X b g cap L j o (part (L.drop j)))) := hP
  have P1 : Hid (∀ X, St w X b g cap L i o → Calls Tryd.prog 34 #[.pointer (some ⟨bx, 0, none⟩)] X (PostN X b g cap L i o (part (L.drop i)))) := fun X hX => hP X i (Nat.le_refl _) hX
  obtain ⟨i0, hi0, hz0, hz1, hz2⟩ := info_parts infoNd
  clear hP h
  rw [rowR]
  cases hr : part (L.drop i) with
  | bad p e =>
    rw [hr] at P1
    rw [Rs.bind_bad]
    clear hr
    go_enter Tryd.func33, Tryd.ntmps33
    go_wp2_with (go_at_call 34; refine (P1.out _ (St.refl H.out)).mono ?_; rintro e w1 ⟨he, g1⟩; unfold gaveUp at he; subst he)
    exact ⟨rfl, rfl, g1⟩
  | ok x0 r0 =>
    rw [hr] at P1
    rw [Rs.bind_ok]
    clear hr
    generalize hR : (if wd r0 = s then rowR s part f ([] ++ [x0]) r0.tail else Rs.ok (lst ([] ++ [x0])) r0) = R
    have HR0 : Hid ((if wd r0 = s then rowR s part f ([] ++ [x0]) r0.tail else Rs.ok (lst ([] ++ [x0])) r0) = R) := hR
    clear hR
    go_enter Tryd.func33, Tryd.ntmps33
    go_wp2_with (go_at_call 34; refine (P1.out _ (St.refl H.out)).mono ?_; rintro e w1 ⟨c1, i1, rfl, ht1, hi1, s1, nd1⟩)
    have hs1 := s1.size
    have LP : LpR_imports part w (w1.alloc (.cells c1.cells 31)) b g cap L i o s (.slice (some ⟨w1.heap.size, 0, none⟩) 1 1) R i1 := by
      refine ⟨[x0], [c1], f, ?_, by omega, hi1, s1.alloc _, ⟨rfl, ⟨rfl, .inr ⟨w1.heap.size, 1, c1.cells, rfl, hs1, heap_new' _ _ rfl, Nat.le_refl _, by decide, rfl, ?_⟩⟩, fun j h1 h2 => ?_⟩, by simp, by simp; omega⟩
      · have := HR0.out
        rw [ht1] at this
        rw [← List.tail_drop]
        exact this
      · simp [ndC, Nc.cells]
      · have : j = 0 := by simp at h1; omega
        subst this
        exact nd1.keep (fun x hx hl => ⟨hx, by simp only [Value.ownBlock]; intro e; injection e with e; omega⟩) (by simp) (fun x hx hl => ((Below.refl _ _).alloc (Nat.le_refl _) _).block x hl)
    clear P1 s1 nd1 ht1 HR0
    generalize (Value.slice (some ⟨w1.heap.size, 0, none⟩) 1 1) = v0 at LP ⊢
    go_loopg [7] (L.length + 1) (fun gf s7 X => ∃ j, LpR_imports part w X b g cap L i o s s7 R j ∧ L.length + 1 ≤ j + gf)
    case atStart => exact ⟨i1, LP, by omega⟩
    case round =>
      obtain ⟨j, ⟨l, cs, f1, hrun, hfu, hij, SJ, RW, hl0, hlj⟩, hg⟩ := hrel
      have hjl := SJ.rd.il
      obtain ⟨g', rfl⟩ : ∃ g', gk = g' + 1 := ⟨gk - 1, by omega⟩
      obtain ⟨f2, rfl⟩ : ∃ f2, f1 = f2 + 1 := ⟨f1 - 1, by omega⟩
      have hsz := SJ.size
      have AJ : Hid (St w wr b g cap L j o ∧ Rw wr w.heap.size u7 l cs) := ⟨SJ, RW⟩
      have hcl : cs.length = l.length := RW.len
      clear SJ RW LP
      by_cases hk : wd (L.drop j) = s
      · rw [if_pos hk, rowR] at hrun
        have hn : j + 1 < L.length := AJ.out.1.rd.last j AJ.out.1.rd.il (by rw [← AJ.out.1.rd.hd]; exact wd_kind (by rw [hk]; exact hs))
        have FY := found_yes wr b g cap L j o AJ.out.1.rd s hs hk
        have PP : Hid (∀ X, St w X b g cap L (j + 1) o → Calls Tryd.prog 34 #[.pointer (some ⟨bx, 0, none⟩)] X (PostN X b g cap L (j + 1) o (part (L.drop (j + 1))))) := fun X hX => HP.out X (j + 1) (by omega) hX
        cases hr2 : part (L.drop (j + 1)) with
        | bad p e =>
          rw [hr2] at PP hrun
          rw [Rs.bind_bad] at hrun
          have HR : Hid (R = .bad p e) := hrun.symm
          clear hr2 hrun hk
          go_wp2_with (first
            | (go_at_call 32; refine FY.mono ?_; rintro e w3 ⟨rfl, s3⟩; have A3 : Hid (St w w3 b g cap L (j + 1) o) := AJ.out.1.next s3)
            | (go_at_call 34; refine (PP.out _ A3.out).mono ?_; rintro e w5 ⟨he, g5⟩; unfold gaveUp at he; subst he))
          rw [HR.out]
          exact ⟨rfl, rfl, gb_trans A3.out.gb g5⟩
        | ok x r =>
          rw [hr2] at PP hrun
          rw [Rs.bind_ok] at hrun
          have HR : Hid ((if wd r = s then rowR s part f2 (l ++ [x]) r.tail else Rs.ok (lst (l ++ [x])) r) = R) := hrun
          clear hr2 hrun hk
          have hb9 : ∀ q, u7.ownBlock = some q → q < wr.heap.size := fun q hq => (own_lt' AJ.out.2.own hq).1
          go_wp2_with (first
            | (go_at_call 32; refine FY.mono ?_; rintro e w3 ⟨rfl, s3⟩; have hs3 := s3.size; have A3 : Hid (St w w3 b g cap L (j + 1) o ∧ Rw w3 w.heap.size u7 l cs) := ⟨AJ.out.1.next s3, AJ.out.2.step bl s3.gb⟩)
            | (go_at_call 34; refine (PP.out _ A3.out.1).mono ?_; rintro e w5 ⟨c5, i5, rfl, ht5, hi5, s5, nd5⟩; have hs5 := s5.size; have R5 : Rw (w5.alloc (.cells c5.cells 31)) w.heap.size u7 l cs := (A3.out.2.step bl s5.gb).step bl (gb_of_below (by go_grown) b); have hi5l := s5.rd.il; obtain ⟨v6, w6, hrun6, hown6, hgrow6, _⟩ := run_append_own (P := Tryd.prog) (w := w5.alloc (.cells c5.cells 31)) w.heap.size 29 29 31 i0 _ 6 72 Tryd.underlying29 hi0 hz0 hz1 hz2 rfl (by decide) u7 cs.length _ R5.own ⟨w5.heap.size, 0, none⟩ 1 1 c5.cells.toList rfl (nd_cells _ _) (nd_one _) (by unfold maxLen; omega) (by omega) (by simp; omega); have hblk := append_block (P := Tryd.prog) (w := w5.alloc (.cells c5.cells 31)) w.heap.size 29 29 31 i0 _ 6 72 Tryd.underlying29 hi0 hz0 hz1 hz2 u7 cs.length _ R5.own ⟨w5.heap.size, 0, none⟩ 1 1 c5.cells.toList (by omega) rfl (nd_cells _ _) (nd_one _) (by unfold maxLen; omega) (by omega) hrun6; have R6 : Hid (Rw w6 w.heap.size v6 (l ++ [x]) (cs ++ [c5])) := R5.app hown6 hgrow6 hblk (nd5.keep (fun y hy hl => ⟨by omega, fun e => by have := hb9 y e; omega⟩) (by simp) (fun y hy hl => ((Below.refl _ _).alloc (Nat.le_refl _) _).block y hl)); have S6 : Hid (St w w6 b g cap L i5 o ∧ r = L.drop i5 ∧ j + 1 < i5) := ⟨((A3.out.1.next s5).alloc _).grow bl gl R5.own hgrow6, ht5, hi5⟩; rw [appN_seal] at hrun6; clear hown6 hgrow6 hblk R5 nd5 s5 ht5 hi5))
          have LN : LpR_imports part w w6 b g cap L i o s v6 R i5 := by
            have e5 := S6.out.2.1
            have e6 := S6.out.2.2
            have e7 := S6.out.1.rd.il
            refine ⟨l ++ [x], cs ++ [c5], f2, ?_, by omega, by omega, S6.out.1, R6.out, by simp, by simp; omega⟩
            have := HR.out
            rw [e5, List.tail_drop] at this
            exact this
          have e6 := S6.out.2.2
          go_roundg g'
          case measure => omega
          case rel => exact ⟨i5, LN, by omega⟩
      · rw [if_neg hk] at hrun
        have HR : Hid (R = .ok (lst l) (L.drop j)) := hrun.symm
        have FN := found_no wr b g cap L j o AJ.out.1.rd s hk
        clear hrun hk
        go_wp2_with (go_at_call 32; refine FN.mono ?_; rintro e w3 ⟨rfl, hb3⟩; have A3 : Hid (St w w3 b g cap L j o ∧ Rw w3 w.heap.size u7 l cs) := ⟨AJ.out.1.below hb3, AJ.out.2.step bl (gb_of_below hb3 b)⟩)
        rw [HR.out]
        have ro := A3.out.2
        rcases ro.own.2 with ⟨_, hz⟩ | ⟨g2, cp, cur, rfl, h1, h2, _⟩
        · omega
        · rw [hcl] at ro ⊢
          go_ret
          exact ⟨g2, cp, j, rfl, rfl, hij, A3.out.1, by have := kids_from ro l.length 0 rfl (Nat.zero_le _); rw [List.drop_zero] at this; exact this, (Array.getElem?_eq_some_iff.1 h2).1, h1, cs, ro, hl0, hlj⟩
end Go.Proofs.YtllhcjmabhempaaDoor

namespace Go.Proofs.YtllhcjmabhempaaDoor
set_option linter.unusedVariables false
set_option linter.unusedSimpArgs false
open Go.ChangeShapes Go.WideShapes Go.ChangeAt Go.RowKit



theorem app_nil (X : World) (a : Option Addr) (N m : Nat) (h : N ≤ m) : (appN #[29, 29] 29 #[.slice a N m, .slice none 0 0]).run Tryd.prog X = .ok (.slice a N m) X := by
  obtain ⟨i0, hi0, hz0, hz1, hz2⟩ := info_parts infoNd
  unfold appN
  cases a <;> simp [go_sem, Builtin.append_, Builtin.lenOf, Tryd.underlying29, hi0, h, Builtin.firstCells]
theorem Rw.app2 {X Y : World} {B : Nat} {v v' : Value} {l l' : List Nd} {cs cs' : List Nc} (h : Rw X B v l cs) (h' : cs'.length = l'.length) (ho : Y.ownsRow B 31 6 v' (cs.length + cs'.length) (ndC cs ++ ndC cs')) (hg : X.grownBy Y v.ownBlock) (hv : v'.ownBlock = v.ownBlock ∨ v'.ownBlock = some X.heap.size)
    (hn : ∀ j (h1 : j < cs'.length) (h2 : j < l'.length), NdAt X (fun x => B ≤ x ∧ v.ownBlock ≠ some x) cs'[j] l'[j]) : Rw Y B v' (l ++ l') (cs ++ cs') := by
  have kp : ∀ {c' : Nc} {n' : Nd}, NdAt X (fun x => B ≤ x ∧ v.ownBlock ≠ some x) c' n' → NdAt Y (fun x => B ≤ x ∧ v'.ownBlock ≠ some x) c' n' := fun hh => hh.keep (fun x hx hl => ⟨hx.1, by
    rcases hv with e | e
    · rw [e]; exact hx.2
    · rw [e]; intro e2; injection e2 with e2; omega⟩) hg.size (fun x hx hl => hg.block x hl (fun e => hx.2 e.symm))
  refine ⟨by simp [h.len, h'], ?_, fun j h1 h2 => ?_⟩
  · rw [List.length_append, ndC_app]
    exact ho
  · by_cases hj : j < cs.length
    · rw [List.getElem_append_left hj, List.getElem_append_left (by rw [← h.len]; exact hj)]
      exact kp (h.nds j hj (by rw [← h.len]; exact hj))
    · rw [List.getElem_append_right (by omega), List.getElem_append_right (by rw [← h.len]; omega)]
      have e1 : j - cs.length = j - l.length := by rw [h.len]
      simp only [e1]
      exact kp (hn _ (by have := h.len; simp at h1; omega) (by have := h.len; simp at h2; omega))
/-- A row's kids behind. -/
theorem FN.pushes {w X X5 : World} {b g cap : Nat} {L : List Tok} {j j5 o r q B : Nat} {k : Int} {t : Bs} {fl : Bool} {p : Nat} {a a' : Option Addr} {N m N' m' : Nat} {l l' : List Nd} {cs' : List Nc} (h : FN w X b g cap L j o r q B k t fl p a N m l) (bl : b < w.heap.size) (gl : g < w.heap.size) (s5 : St X X5 b g cap L j5 o) (R' : Rw X5 X.heap.size (.slice a' N' m') l' cs') (hj : l'.length + j ≤ j5) :
    ∃ a2 N2 m2 Y, (appN #[29, 29] 29 #[.slice a N m, .slice a' N' m']).run Tryd.prog X5 = .ok (.slice a2 N2 m2) Y ∧ rowAt Y q = some (⟨k, bs t, 0, fl, a, N, m, (p : Int)⟩ : Nc).cells ∧ Y.frozen? ⟨q, 4, none⟩ = false ∧ Hid (FN w (Y.setCell ⟨q, 4, none⟩ (.slice a2 N2 m2)) b g cap L j5 o r q B k t fl p a2 N2 m2 (l ++ l')) ∧ Hid (∀ x, x < B → some x ≠ (Value.slice a N m).ownBlock) ∧ Hid (X5.grownBy Y (Value.slice a N m).ownBlock) := by
  obtain ⟨i0, hi0, hz0, hz1, hz2⟩ := info_parts infoNd
  have h5 : FN w X5 b g cap L j5 o r q B k t fl p a N m l := h.step bl s5 (by omega)
  obtain ⟨cs, R5⟩ := h5.rws
  obtain ⟨cs0, R0⟩ := h.rws
  have hqB := h.qB
  have hrB := h.rB
  have hBX := h.BX
  have hs5 := s5.size
  have hhq := h.hq
  have hhr := h.hr
  have hle := h.len
  have hll := h.st.rd.ll
  have hjl := s5.rd.il
  have hcl : cs.length = l.length := R5.len
  have hcl' : cs'.length = l'.length := R'.len
  have far : ∀ x, x < B → some x ≠ (Value.slice a N m).ownBlock := fun x hx e => by have := (own_lt' R5.own e.symm).2; omega
  have fin : ∀ {a2 : Option Addr} {N2 m2 : Nat} {Y : World} {cs2 : List Nc}, X5.grownBy Y (Value.slice a N m).ownBlock → Rw Y B (.slice a2 N2 m2) (l ++ l') cs2 → rowAt Y q = some (⟨k, bs t, 0, fl, a, N, m, (p : Int)⟩ : Nc).cells ∧ Y.frozen? ⟨q, 4, none⟩ = false ∧ Hid (FN w (Y.setCell ⟨q, 4, none⟩ (.slice a2 N2 m2)) b g cap L j5 o r q B k t fl p a2 N2 m2 (l ++ l')) := by
    intro a2 N2 m2 Y cs2 hgrow R6
    have S6 : St w Y b g cap L j5 o := h5.st.grow2 bl gl (by omega) R5.own hgrow
    have row6 : rowAt Y q = some (⟨k, bs t, 0, fl, a, N, m, (p : Int)⟩ : Nc).cells := by
      have : rowAt Y q = rowAt X5 q := by unfold rowAt; rw [hgrow.block q (by omega) (far q hqB)]
      rw [this]; exact h5.row
    have rm : roomAt Y q 6 = true := (room_gbo hgrow (by omega) (far q hqB) 6).trans h5.room
    have rr : roomAt Y r 6 = true := (room_gbo hgrow (by omega) (far r hrB) 6).trans h5.res
    have hz6 := hgrow.size
    exact ⟨row6, by have h4 := (room_there rm 4 (by omega)).2; rwa [Nat.zero_add] at h4, ⟨S6.far bl gl _ 4 hhq _, rowAt_set _ _ _ _ _ row6, room_set rm _ _, (roomAt_far _ _ _ _ _ (by show r ≠ q; exact fun e => h.qr e.symm)).trans rr, ⟨_, R6.step (b := q) hqB (gb_set (gb_of_below (Below.refl _ _) q))⟩, hhq, hhr, h.qr, hqB, hrB, by simp; omega, by simp; omega⟩⟩
  rcases R'.own.2 with ⟨e, hz⟩ | ⟨g4, cp4, cur4, e, h1, h2, h3⟩
  · injection e with e1 e2 e3
    subst e1 e2 e3
    have hl0 : l' = [] := by rw [hcl'] at hz; simpa using hz
    subst hl0
    have hNm : N ≤ m := by
      rcases R5.own.2 with ⟨e, hz⟩ | ⟨g2, cp, cur, e, h1, h2, h3, _⟩
      · injection e with _ e2 e3; omega
      · injection e with _ e2 e3; omega
    have G0 : X5.grownBy X5 (Value.slice a N m).ownBlock := ⟨rfl, rfl, rfl, Nat.le_refl _, fun _ _ _ => rfl⟩
    obtain ⟨f1, f2, f3⟩ := fin (a2 := a) (N2 := N) (m2 := m) (cs2 := cs) G0 (by rw [List.append_nil]; exact R5)
    exact ⟨a, N, m, X5, app_nil X5 a N m hNm, f1, f2, f3, far, G0⟩
  · injection e with e1 e2 e3
    subst e1
    have ow := R'.own
    have cells : ∀ jj u, (ndC cs')[jj]? = some u → X5.cell? ((⟨g4, 0, none⟩ : Addr).add jj) = some u := fun jj u hh => World.ownsRow.cells ow (g := g4) rfl jj u hh
    obtain ⟨v6, w6, hrun6, hown6, hgrow6, _, hblk⟩ := run_append_own_at (P := Tryd.prog) (w := X5) B 29 29 31 i0 _ 6 72 Tryd.underlying29 hi0 hz0 hz1 hz2 rfl (by decide) (.slice a N m) cs.length _ R5.own ⟨g4, 0, none⟩ N' m' (ndC cs') (by rw [ndC_len, e2]) cells (nd_all _) (by unfold maxLen; omega) (by omega) (by omega)
    have hb9 : ∀ x, (Value.slice a N m).ownBlock = some x → x < X.heap.size := fun x hx => (own_lt' R0.own hx).1
    have R6 : Rw w6 B v6 (l ++ l') (cs ++ cs') := R5.app2 hcl' (by rw [← e2]; exact hown6) hgrow6 hblk (fun jj h1 h2 => (R'.nds jj h1 h2).keep (fun y hy hl => ⟨by have := hy.1; omega, fun e => by have := hb9 y e; have := hy.1; omega⟩) (Nat.le_refl _) (fun _ _ _ => rfl))
    rcases hown6.2 with ⟨rfl, hz⟩ | ⟨g2, cp, cur, rfl, h4, h5', h6⟩
    · obtain ⟨f1, f2, f3⟩ := fin hgrow6 R6
      exact ⟨_, _, _, _, hrun6, f1, f2, f3, far, hgrow6⟩
    · obtain ⟨f1, f2, f3⟩ := fin hgrow6 R6
      exact ⟨_, _, _, _, hrun6, f1, f2, f3, far, hgrow6⟩
end Go.Proofs.YtllhcjmabhempaaDoor
