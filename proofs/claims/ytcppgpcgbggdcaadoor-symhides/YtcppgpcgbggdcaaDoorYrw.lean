/-
  Layer 13: rows that the reader reads, of constants, variables, parameters and procedures.
-/
import Derived.Test.YtcppgpcgbggdcaaDoorYco
namespace Go.Proofs.YtcppgpcgbggdcaaDoor
set_option linter.unusedVariables false
set_option linter.unusedSimpArgs false
open Go.ChangeShapes Go.WideShapes Go.ChangeAt Go.RowKit

theorem info_con : (Tryd.prog.info? 53).map (fun i => (i.zero, i.size, i.bytes)) = some (some (.agg #[.string ⟨#[]⟩, .int .i64 0, .int .i64 0, .string ⟨#[]⟩, .bool false]), 5, 56) := by kernel_rfl
set_option maxHeartbeats 8000000 in
set_option maxRecDepth 20000 in
theorem row_con (rd : St → Cn × St)  (w : World) (b len cap : Nat) (a : Option Addr) (f : Nat → Int) (s : St) (h : Rdr w b a len cap f s) (most : Int) (m0 : 0 ≤ most) (m1 : most ≤ 65536)
    (hP : ∀ X sx, Rdr X b a len cap f sx → w.grownBy X (some b) → Calls Tryd.prog 68 #[.pointer (some ⟨b, 0, none⟩)] X (PostR X b a len cap f (.agg (cEnc (rd sx).1)) (rd sx).2)) :
    Calls Tryd.prog 67 #[.pointer (some ⟨b, 0, none⟩), .int .u32 most, .func (.func 68) #[.pointer (some ⟨b, 0, none⟩)] #[]] w (PostW w b a len cap f 53 5 (flat cEnc (rowS f len most rd s).1) (rowS f len most rd s).1.length (rowS f len most rd s).2) := by
  obtain ⟨i0, hi0, hz0, hz1, hz2⟩ := info_parts info_con
  have hN := number_of w b len cap a f s h most m0 (by omega)
  have hbd := numS_bd f len most s m0
  have HP : Hid (∀ X sx, Rdr X b a len cap f sx → w.grownBy X (some b) → Calls Tryd.prog 68 #[.pointer (some ⟨b, 0, none⟩)] X (PostR X b a len cap f (.agg (cEnc (rd sx).1)) (rd sx).2)) := hP
  have hlo := fun ad he => (h.ap ad he).2
  have bl := h.bl
  obtain ⟨F, hF⟩ : ∃ F, F = rowS f len most rd s := ⟨_, rfl⟩
  rw [← hF]
  unfold rowS at hF
  obtain ⟨n, hn⟩ : ∃ n : Nat, (numS f len most s).1 = (n : Int) := ⟨(numS f len most s).1.toNat, by omega⟩
  rw [hn] at hN hF hbd
  rw [Int.toNat_natCast] at hF
  have hn2 : n ≤ 65536 := by omega
  generalize (numS f len most s).2 = s1 at hN hF
  have HN : Hid (Calls Tryd.prog 87 #[.pointer (some ⟨b, 0, none⟩), .int .u32 most] w (PostR w b a len cap f (.int .i64 (n : Int)) s1)) := hN
  have HF : Hid (F = loopS rd n [] s1) := hF
  have HLo : Hid (∀ ad, a = some ad → ad.block < w.heap.size) := hlo
  clear hN hF hlo hP h hn hbd
  go_enter Tryd.func67, Tryd.ntmps67
  go_wp2_with (go_at_call 87; refine HN.out.mono ?_; rintro e w1 ⟨rfl, hr1, hg1⟩)
  have R1 : Hid (Rdr w1 b a len cap f s1 ∧ w.grownBy w1 (some b)) := ⟨hr1, hg1⟩
  clear hr1 hg1
  go_loopg [7, 8, 12] n (fun gf s7 s8 s12 wx => ∃ (i : Nat) (acc : List Cn) (sx : St), s12 = .int .i64 (i : Int) ∧ i + gf = n ∧ acc.length = i ∧ Hid (F = loopS rd gf acc sx) ∧ Hid (wx.ownsRow w.heap.size 53 5 s7 acc.length (flat cEnc acc) ∧ Rdr wx b a len cap f sx ∧ w.grownBy wx (some b)))
  case atStart => exact ⟨0, [], s1, rfl, by omega, rfl, HF.out, ⟨by simp [flat], .inl ⟨rfl, rfl⟩⟩, R1.out⟩
  case round =>
    obtain ⟨i, acc, sx, rfl, hi, hacc, HL, HO⟩ := hrel
    by_cases hlt : i < n
    · obtain ⟨g', rfl⟩ : ∃ g', gk = g' + 1 := ⟨gk - 1, by omega⟩
      have d1 : decide ((i : Int) < (n : Int)) = true := decide_eq_true (by omega)
      have PC := HP.out wr sx HO.out.2.1 HO.out.2.2
      have hl2 := HL.out
      simp only [loopS] at hl2
      obtain ⟨⟨xx, sy⟩, hrd⟩ : ∃ r, rd sx = r := ⟨_, rfl⟩
      rw [hrd] at PC hl2
      simp only at PC hl2
      have HPC : Hid (Calls Tryd.prog 68 #[.pointer (some ⟨b, 0, none⟩)] wr (PostR wr b a len cap f (.agg #[.string xx.nm, .int .i64 xx.ty, .int .i64 xx.n, .string xx.s, .bool xx.ex]) sy)) := PC
      clear PC
      cases hst : sy.st
      · rw [hst] at hl2
        simp only [Bool.false_eq_true, if_false] at hl2
        have HL2 : Hid (F = loopS rd g' (acc ++ [xx]) sy) := hl2
        clear hl2 HL
        go_wp2_with (first
          | (go_at_call 68; refine HPC.out.mono ?_; rintro e w2 ⟨rfl, hr2, hg2⟩; have c2 := hr2.c2; rw [hst] at c2; have bl2 := hr2.bl; have hbn : b ≠ w2.heap.size := Nat.ne_of_lt bl2; have HO2 : Hid (w2.ownsRow w.heap.size 53 5 u7 acc.length (flat cEnc acc) ∧ Rdr w2 b a len cap f sy ∧ w.grownBy w2 (some b)) := ⟨own_gb HO.out.1 bl hg2, hr2, gb_trans HO.out.2.2 hg2⟩; clear hr2 hg2 HO)
          | (at_builtin; refine wpList_append_own _ rfl _ _ 22 rfl w.heap.size 53 i0 (.agg #[.string ⟨#[]⟩, .int .i64 0, .int .i64 0, .string ⟨#[]⟩, .bool false]) 5 56 Tryd.underlying22 hi0 hz0 hz1 hz2 rfl (by decide) _ _ _ rfl (own_gb HO2.out.1 bl (gb_of_below (by go_grown) b)) ⟨w2.heap.size + 1, 0, none⟩ 1 1 (Array.toList #[.string xx.nm, .int .i64 xx.ty, .int .i64 xx.n, .string xx.s, .bool xx.ex]) rfl rfl ?c1 ?c2 ?c3 ?c4 ?c5 ?c6)
          | go_in)
        case c2 => first | exact ⟨rfl, rfl, rfl, rfl, rfl⟩ | exact ⟨rfl, rfl⟩ | exact ⟨rfl, rfl, rfl⟩ | exact ⟨rfl, rfl, rfl, rfl⟩
        case c3 => unfold maxLen; omega
        case c4 => omega
        case c5 => have := HO2.out.2.2.size; simp; omega
        intro s' w3 hown' hgrow _
        have hlo2 := own_lo HO2.out.1
        have HO3 : Hid (w3.ownsRow w.heap.size 53 5 s' (acc ++ [xx]).length (flat cEnc (acc ++ [xx])) ∧ Rdr w3 b a len cap f sy ∧ w.grownBy w3 (some b)) :=
          ⟨by rw [List.length_append, flat_snoc, hacc]; exact hown', (HO2.out.2.1.below (by go_grown)).grow HLo.out bl hgrow hlo2, gb_own (gb_trans HO2.out.2.2 (gb_of_below (by go_grown) b)) hgrow hlo2⟩
        clear hown' hgrow hlo2 HO2
        go_wp2
        go_roundg g'
        case measure => omega
        case rel => exact ⟨i + 1, acc ++ [xx], sy, by simp, by omega, by simp [hacc], HL2.out, HO3.out⟩
      · rw [hst] at hl2
        simp only [if_true] at hl2
        go_wp2_with (go_at_call 68; refine HPC.out.mono ?_; rintro e w2 ⟨rfl, hr2, hg2⟩; have c2 := hr2.c2; rw [hst] at c2; have bl2 := hr2.bl; have hbn : b ≠ w2.heap.size := Nat.ne_of_lt bl2)
        go_ret
        refine ⟨_, rfl, ?_, ?_, gb_trans (gb_trans HO.out.2.2 hg2) (gb_of_below (by go_grown) b)⟩
        · rw [hl2]; exact ⟨by simp [flat], .inl ⟨rfl, rfl⟩⟩
        · rw [hl2]; exact hr2.below (by go_grown)
    · obtain rfl : gk = 0 := by omega
      have d1 : decide ((i : Int) < (n : Int)) = false := decide_eq_false (by omega)
      have hl2 := HL.out
      simp only [loopS] at hl2
      go_wp2
      go_ret
      refine ⟨_, rfl, ?_, ?_, HO.out.2.2⟩
      · rw [hl2]; exact HO.out.1
      · rw [hl2]; exact HO.out.2.1
theorem info_var : (Tryd.prog.info? 69).map (fun i => (i.zero, i.size, i.bytes)) = some (some (.agg #[.string ⟨#[]⟩, .int .i64 0, .int .i64 0, .bool false, .bool false]), 5, 40) := by kernel_rfl
set_option maxHeartbeats 8000000 in
set_option maxRecDepth 20000 in
theorem row_var (rd : St → Vr × St)  (w : World) (b len cap : Nat) (a : Option Addr) (f : Nat → Int) (s : St) (h : Rdr w b a len cap f s) (most : Int) (m0 : 0 ≤ most) (m1 : most ≤ 65536)
    (hP : ∀ X sx, Rdr X b a len cap f sx → w.grownBy X (some b) → Calls Tryd.prog 70 #[.pointer (some ⟨b, 0, none⟩)] X (PostR X b a len cap f (.agg (vEnc (rd sx).1)) (rd sx).2)) :
    Calls Tryd.prog 69 #[.pointer (some ⟨b, 0, none⟩), .int .u32 most, .func (.func 70) #[.pointer (some ⟨b, 0, none⟩)] #[]] w (PostW w b a len cap f 69 5 (flat vEnc (rowS f len most rd s).1) (rowS f len most rd s).1.length (rowS f len most rd s).2) := by
  obtain ⟨i0, hi0, hz0, hz1, hz2⟩ := info_parts info_var
  have hN := number_of w b len cap a f s h most m0 (by omega)
  have hbd := numS_bd f len most s m0
  have HP : Hid (∀ X sx, Rdr X b a len cap f sx → w.grownBy X (some b) → Calls Tryd.prog 70 #[.pointer (some ⟨b, 0, none⟩)] X (PostR X b a len cap f (.agg (vEnc (rd sx).1)) (rd sx).2)) := hP
  have hlo := fun ad he => (h.ap ad he).2
  have bl := h.bl
  obtain ⟨F, hF⟩ : ∃ F, F = rowS f len most rd s := ⟨_, rfl⟩
  rw [← hF]
  unfold rowS at hF
  obtain ⟨n, hn⟩ : ∃ n : Nat, (numS f len most s).1 = (n : Int) := ⟨(numS f len most s).1.toNat, by omega⟩
  rw [hn] at hN hF hbd
  rw [Int.toNat_natCast] at hF
  have hn2 : n ≤ 65536 := by omega
  generalize (numS f len most s).2 = s1 at hN hF
  have HN : Hid (Calls Tryd.prog 87 #[.pointer (some ⟨b, 0, none⟩), .int .u32 most] w (PostR w b a len cap f (.int .i64 (n : Int)) s1)) := hN
  have HF : Hid (F = loopS rd n [] s1) := hF
  have HLo : Hid (∀ ad, a = some ad → ad.block < w.heap.size) := hlo
  clear hN hF hlo hP h hn hbd
  go_enter Tryd.func69, Tryd.ntmps69
  go_wp2_with (go_at_call 87; refine HN.out.mono ?_; rintro e w1 ⟨rfl, hr1, hg1⟩)
  have R1 : Hid (Rdr w1 b a len cap f s1 ∧ w.grownBy w1 (some b)) := ⟨hr1, hg1⟩
  clear hr1 hg1
  go_loopg [7, 8, 12] n (fun gf s7 s8 s12 wx => ∃ (i : Nat) (acc : List Vr) (sx : St), s12 = .int .i64 (i : Int) ∧ i + gf = n ∧ acc.length = i ∧ Hid (F = loopS rd gf acc sx) ∧ Hid (wx.ownsRow w.heap.size 69 5 s7 acc.length (flat vEnc acc) ∧ Rdr wx b a len cap f sx ∧ w.grownBy wx (some b)))
  case atStart => exact ⟨0, [], s1, rfl, by omega, rfl, HF.out, ⟨by simp [flat], .inl ⟨rfl, rfl⟩⟩, R1.out⟩
  case round =>
    obtain ⟨i, acc, sx, rfl, hi, hacc, HL, HO⟩ := hrel
    by_cases hlt : i < n
    · obtain ⟨g', rfl⟩ : ∃ g', gk = g' + 1 := ⟨gk - 1, by omega⟩
      have d1 : decide ((i : Int) < (n : Int)) = true := decide_eq_true (by omega)
      have PC := HP.out wr sx HO.out.2.1 HO.out.2.2
      have hl2 := HL.out
      simp only [loopS] at hl2
      obtain ⟨⟨xx, sy⟩, hrd⟩ : ∃ r, rd sx = r := ⟨_, rfl⟩
      rw [hrd] at PC hl2
      simp only at PC hl2
      have HPC : Hid (Calls Tryd.prog 70 #[.pointer (some ⟨b, 0, none⟩)] wr (PostR wr b a len cap f (.agg #[.string xx.nm, .int .i64 xx.fm, .int .i64 xx.ln, .bool xx.op, .bool xx.rf]) sy)) := PC
      clear PC
      cases hst : sy.st
      · rw [hst] at hl2
        simp only [Bool.false_eq_true, if_false] at hl2
        have HL2 : Hid (F = loopS rd g' (acc ++ [xx]) sy) := hl2
        clear hl2 HL
        go_wp2_with (first
          | (go_at_call 70; refine HPC.out.mono ?_; rintro e w2 ⟨rfl, hr2, hg2⟩; have c2 := hr2.c2; rw [hst] at c2; have bl2 := hr2.bl; have hbn : b ≠ w2.heap.size := Nat.ne_of_lt bl2; have HO2 : Hid (w2.ownsRow w.heap.size 69 5 u7 acc.length (flat vEnc acc) ∧ Rdr w2 b a len cap f sy ∧ w.grownBy w2 (some b)) := ⟨own_gb HO.out.1 bl hg2, hr2, gb_trans HO.out.2.2 hg2⟩; clear hr2 hg2 HO)
          | (at_builtin; refine wpList_append_own _ rfl _ _ 23 rfl w.heap.size 69 i0 (.agg #[.string ⟨#[]⟩, .int .i64 0, .int .i64 0, .bool false, .bool false]) 5 40 Tryd.underlying23 hi0 hz0 hz1 hz2 rfl (by decide) _ _ _ rfl (own_gb HO2.out.1 bl (gb_of_below (by go_grown) b)) ⟨w2.heap.size + 1, 0, none⟩ 1 1 (Array.toList #[.string xx.nm, .int .i64 xx.fm, .int .i64 xx.ln, .bool xx.op, .bool xx.rf]) rfl rfl ?c1 ?c2 ?c3 ?c4 ?c5 ?c6)
          | go_in)
        case c2 => first | exact ⟨rfl, rfl, rfl, rfl, rfl⟩ | exact ⟨rfl, rfl⟩ | exact ⟨rfl, rfl, rfl⟩ | exact ⟨rfl, rfl, rfl, rfl⟩
        case c3 => unfold maxLen; omega
        case c4 => omega
        case c5 => have := HO2.out.2.2.size; simp; omega
        intro s' w3 hown' hgrow _
        have hlo2 := own_lo HO2.out.1
        have HO3 : Hid (w3.ownsRow w.heap.size 69 5 s' (acc ++ [xx]).length (flat vEnc (acc ++ [xx])) ∧ Rdr w3 b a len cap f sy ∧ w.grownBy w3 (some b)) :=
          ⟨by rw [List.length_append, flat_snoc, hacc]; exact hown', (HO2.out.2.1.below (by go_grown)).grow HLo.out bl hgrow hlo2, gb_own (gb_trans HO2.out.2.2 (gb_of_below (by go_grown) b)) hgrow hlo2⟩
        clear hown' hgrow hlo2 HO2
        go_wp2
        go_roundg g'
        case measure => omega
        case rel => exact ⟨i + 1, acc ++ [xx], sy, by simp, by omega, by simp [hacc], HL2.out, HO3.out⟩
      · rw [hst] at hl2
        simp only [if_true] at hl2
        go_wp2_with (go_at_call 70; refine HPC.out.mono ?_; rintro e w2 ⟨rfl, hr2, hg2⟩; have c2 := hr2.c2; rw [hst] at c2; have bl2 := hr2.bl; have hbn : b ≠ w2.heap.size := Nat.ne_of_lt bl2)
        go_ret
        refine ⟨_, rfl, ?_, ?_, gb_trans (gb_trans HO.out.2.2 hg2) (gb_of_below (by go_grown) b)⟩
        · rw [hl2]; exact ⟨by simp [flat], .inl ⟨rfl, rfl⟩⟩
        · rw [hl2]; exact hr2.below (by go_grown)
    · obtain rfl : gk = 0 := by omega
      have d1 : decide ((i : Int) < (n : Int)) = false := decide_eq_false (by omega)
      have hl2 := HL.out
      simp only [loopS] at hl2
      go_wp2
      go_ret
      refine ⟨_, rfl, ?_, ?_, HO.out.2.2⟩
      · rw [hl2]; exact HO.out.1
      · rw [hl2]; exact HO.out.2.1
theorem info_par : (Tryd.prog.info? 69).map (fun i => (i.zero, i.size, i.bytes)) = some (some (.agg #[.string ⟨#[]⟩, .int .i64 0, .int .i64 0, .bool false, .bool false]), 5, 40) := by kernel_rfl
set_option maxHeartbeats 8000000 in
set_option maxRecDepth 20000 in
theorem row_par (rd : St → Vr × St)  (w : World) (b len cap : Nat) (a : Option Addr) (f : Nat → Int) (s : St) (h : Rdr w b a len cap f s) (most : Int) (m0 : 0 ≤ most) (m1 : most ≤ 65536)
    (hP : ∀ X sx, Rdr X b a len cap f sx → w.grownBy X (some b) → Calls Tryd.prog 92 #[.pointer (some ⟨b, 0, none⟩)] X (PostR X b a len cap f (.agg (vEnc (rd sx).1)) (rd sx).2)) :
    Calls Tryd.prog 69 #[.pointer (some ⟨b, 0, none⟩), .int .u32 most, .func (.func 92) #[.pointer (some ⟨b, 0, none⟩)] #[]] w (PostW w b a len cap f 69 5 (flat vEnc (rowS f len most rd s).1) (rowS f len most rd s).1.length (rowS f len most rd s).2) := by
  obtain ⟨i0, hi0, hz0, hz1, hz2⟩ := info_parts info_par
  have hN := number_of w b len cap a f s h most m0 (by omega)
  have hbd := numS_bd f len most s m0
  have HP : Hid (∀ X sx, Rdr X b a len cap f sx → w.grownBy X (some b) → Calls Tryd.prog 92 #[.pointer (some ⟨b, 0, none⟩)] X (PostR X b a len cap f (.agg (vEnc (rd sx).1)) (rd sx).2)) := hP
  have hlo := fun ad he => (h.ap ad he).2
  have bl := h.bl
  obtain ⟨F, hF⟩ : ∃ F, F = rowS f len most rd s := ⟨_, rfl⟩
  rw [← hF]
  unfold rowS at hF
  obtain ⟨n, hn⟩ : ∃ n : Nat, (numS f len most s).1 = (n : Int) := ⟨(numS f len most s).1.toNat, by omega⟩
  rw [hn] at hN hF hbd
  rw [Int.toNat_natCast] at hF
  have hn2 : n ≤ 65536 := by omega
  generalize (numS f len most s).2 = s1 at hN hF
  have HN : Hid (Calls Tryd.prog 87 #[.pointer (some ⟨b, 0, none⟩), .int .u32 most] w (PostR w b a len cap f (.int .i64 (n : Int)) s1)) := hN
  have HF : Hid (F = loopS rd n [] s1) := hF
  have HLo : Hid (∀ ad, a = some ad → ad.block < w.heap.size) := hlo
  clear hN hF hlo hP h hn hbd
  go_enter Tryd.func69, Tryd.ntmps69
  go_wp2_with (go_at_call 87; refine HN.out.mono ?_; rintro e w1 ⟨rfl, hr1, hg1⟩)
  have R1 : Hid (Rdr w1 b a len cap f s1 ∧ w.grownBy w1 (some b)) := ⟨hr1, hg1⟩
  clear hr1 hg1
  go_loopg [7, 8, 12] n (fun gf s7 s8 s12 wx => ∃ (i : Nat) (acc : List Vr) (sx : St), s12 = .int .i64 (i : Int) ∧ i + gf = n ∧ acc.length = i ∧ Hid (F = loopS rd gf acc sx) ∧ Hid (wx.ownsRow w.heap.size 69 5 s7 acc.length (flat vEnc acc) ∧ Rdr wx b a len cap f sx ∧ w.grownBy wx (some b)))
  case atStart => exact ⟨0, [], s1, rfl, by omega, rfl, HF.out, ⟨by simp [flat], .inl ⟨rfl, rfl⟩⟩, R1.out⟩
  case round =>
    obtain ⟨i, acc, sx, rfl, hi, hacc, HL, HO⟩ := hrel
    by_cases hlt : i < n
    · obtain ⟨g', rfl⟩ : ∃ g', gk = g' + 1 := ⟨gk - 1, by omega⟩
      have d1 : decide ((i : Int) < (n : Int)) = true := decide_eq_true (by omega)
      have PC := HP.out wr sx HO.out.2.1 HO.out.2.2
      have hl2 := HL.out
      simp only [loopS] at hl2
      obtain ⟨⟨xx, sy⟩, hrd⟩ : ∃ r, rd sx = r := ⟨_, rfl⟩
      rw [hrd] at PC hl2
      simp only at PC hl2
      have HPC : Hid (Calls Tryd.prog 92 #[.pointer (some ⟨b, 0, none⟩)] wr (PostR wr b a len cap f (.agg #[.string xx.nm, .int .i64 xx.fm, .int .i64 xx.ln, .bool xx.op, .bool xx.rf]) sy)) := PC
      clear PC
      cases hst : sy.st
      · rw [hst] at hl2
        simp only [Bool.false_eq_true, if_false] at hl2
        have HL2 : Hid (F = loopS rd g' (acc ++ [xx]) sy) := hl2
        clear hl2 HL
        go_wp2_with (first
          | (go_at_call 92; refine HPC.out.mono ?_; rintro e w2 ⟨rfl, hr2, hg2⟩; have c2 := hr2.c2; rw [hst] at c2; have bl2 := hr2.bl; have hbn : b ≠ w2.heap.size := Nat.ne_of_lt bl2; have HO2 : Hid (w2.ownsRow w.heap.size 69 5 u7 acc.length (flat vEnc acc) ∧ Rdr w2 b a len cap f sy ∧ w.grownBy w2 (some b)) := ⟨own_gb HO.out.1 bl hg2, hr2, gb_trans HO.out.2.2 hg2⟩; clear hr2 hg2 HO)
          | (at_builtin; refine wpList_append_own _ rfl _ _ 23 rfl w.heap.size 69 i0 (.agg #[.string ⟨#[]⟩, .int .i64 0, .int .i64 0, .bool false, .bool false]) 5 40 Tryd.underlying23 hi0 hz0 hz1 hz2 rfl (by decide) _ _ _ rfl (own_gb HO2.out.1 bl (gb_of_below (by go_grown) b)) ⟨w2.heap.size + 1, 0, none⟩ 1 1 (Array.toList #[.string xx.nm, .int .i64 xx.fm, .int .i64 xx.ln, .bool xx.op, .bool xx.rf]) rfl rfl ?c1 ?c2 ?c3 ?c4 ?c5 ?c6)
          | go_in)
        case c2 => first | exact ⟨rfl, rfl, rfl, rfl, rfl⟩ | exact ⟨rfl, rfl⟩ | exact ⟨rfl, rfl, rfl⟩ | exact ⟨rfl, rfl, rfl, rfl⟩
        case c3 => unfold maxLen; omega
        case c4 => omega
        case c5 => have := HO2.out.2.2.size; simp; omega
        intro s' w3 hown' hgrow _
        have hlo2 := own_lo HO2.out.1
        have HO3 : Hid (w3.ownsRow w.heap.size 69 5 s' (acc ++ [xx]).length (flat vEnc (acc ++ [xx])) ∧ Rdr w3 b a len cap f sy ∧ w.grownBy w3 (some b)) :=
          ⟨by rw [List.length_append, flat_snoc, hacc]; exact hown', (HO2.out.2.1.below (by go_grown)).grow HLo.out bl hgrow hlo2, gb_own (gb_trans HO2.out.2.2 (gb_of_below (by go_grown) b)) hgrow hlo2⟩
        clear hown' hgrow hlo2 HO2
        go_wp2
        go_roundg g'
        case measure => omega
        case rel => exact ⟨i + 1, acc ++ [xx], sy, by simp, by omega, by simp [hacc], HL2.out, HO3.out⟩
      · rw [hst] at hl2
        simp only [if_true] at hl2
        go_wp2_with (go_at_call 92; refine HPC.out.mono ?_; rintro e w2 ⟨rfl, hr2, hg2⟩; have c2 := hr2.c2; rw [hst] at c2; have bl2 := hr2.bl; have hbn : b ≠ w2.heap.size := Nat.ne_of_lt bl2)
        go_ret
        refine ⟨_, rfl, ?_, ?_, gb_trans (gb_trans HO.out.2.2 hg2) (gb_of_below (by go_grown) b)⟩
        · rw [hl2]; exact ⟨by simp [flat], .inl ⟨rfl, rfl⟩⟩
        · rw [hl2]; exact hr2.below (by go_grown)
    · obtain rfl : gk = 0 := by omega
      have d1 : decide ((i : Int) < (n : Int)) = false := decide_eq_false (by omega)
      have hl2 := HL.out
      simp only [loopS] at hl2
      go_wp2
      go_ret
      refine ⟨_, rfl, ?_, ?_, HO.out.2.2⟩
      · rw [hl2]; exact HO.out.1
      · rw [hl2]; exact HO.out.2.1
/-- A procedure that is shown. -/
structure Pc where
  nm : ByteArray
  ps : List Vr
  rs : Int
def pEnc (p : Pc × Sl) : Array Value := #[.string p.1.nm, .slice p.2.a p.2.n p.2.c, .int .i64 p.1.rs]
/-- The parameters of procedures, each in a row of its own. -/
def PsAt (X : World) (B : Nat) (l : List (Pc × Sl)) : Prop := ∀ p ∈ l, X.ownsRow B 69 5 (.slice p.2.a p.2.n p.2.c) p.1.ps.length (flat vEnc p.1.ps)
theorem PsAt.gb {X Y : World} {B b : Nat} {l : List (Pc × Sl)} (h : PsAt X B l) (hb : b < B) (hg : X.grownBy Y (some b)) : PsAt Y B l := fun p hp => own_gb (h p hp) hb hg
theorem PsAt.snoc {X : World} {B : Nat} {l : List (Pc × Sl)} {p : Pc × Sl} (h : PsAt X B l) (hp : X.ownsRow B 69 5 (.slice p.2.a p.2.n p.2.c) p.1.ps.length (flat vEnc p.1.ps)) : PsAt X B (l ++ [p]) := fun q hq => by
  rcases List.mem_append.1 hq with h1 | h1
  · exact h q h1
  · rw [List.mem_singleton.1 h1]; exact hp
def PostP (w : World) (b : Nat) (a : Option Addr) (len cap : Nat) (f : Nat → Int) (x : Pc) (s : St) (e : Ending) (w' : World) : Prop := ∃ v, e = .returned (.agg #[.string x.nm, v, .int .i64 x.rs]) ∧ w'.ownsRow w.heap.size 69 5 v x.ps.length (flat vEnc x.ps) ∧ Rdr w' b a len cap f s ∧ w.grownBy w' (some b)
theorem PsAt.own {X Y : World} {B B' : Nat} {k n : Nat} {v : Value} {xs : List Value} {l : List (Pc × Sl)} (h : PsAt X B l) (ho : X.ownsRow B' 63 k v n xs) (hg : X.grownBy Y v.ownBlock) : PsAt Y B l := fun p hp =>
  own_grow (h p hp) hg fun g hg1 hg2 => own_two (h p hp) ho (by decide) hg1 hg2
def PostPs (w : World) (b : Nat) (a : Option Addr) (len cap : Nat) (f : Nat → Int) (xs : List Pc) (s : St) (e : Ending) (w' : World) : Prop := ∃ v l, e = .returned v ∧ xs = l.map (·.1) ∧ w'.ownsRow w.heap.size 63 3 v l.length (flat pEnc l) ∧ PsAt w' w.heap.size l ∧ Rdr w' b a len cap f s ∧ w.grownBy w' (some b)
theorem info_prc : (Tryd.prog.info? 63).map (fun i => (i.zero, i.size, i.bytes)) = some (some (.agg #[.string ⟨#[]⟩, .slice none 0 0, .int .i64 0]), 3, 48) := by kernel_rfl
set_option maxHeartbeats 8000000 in
set_option maxRecDepth 20000 in
theorem row_prc (rd : St → Pc × St) (w : World) (b len cap : Nat) (a : Option Addr) (f : Nat → Int) (s : St) (h : Rdr w b a len cap f s) (most : Int) (m0 : 0 ≤ most) (m1 : most ≤ 65536)
    (hP : ∀ X sx, Rdr X b a len cap f sx → w.grownBy X (some b) → Calls Tryd.prog 72 #[.pointer (some ⟨b, 0, none⟩)] X (PostP X b a len cap f (rd sx).1 (rd sx).2)) :
    Calls Tryd.prog 71 #[.pointer (some ⟨b, 0, none⟩), .int .u32 most, .func (.func 72) #[.pointer (some ⟨b, 0, none⟩)] #[]] w (PostPs w b a len cap f (rowS f len most rd s).1 (rowS f len most rd s).2) := by
  obtain ⟨i0, hi0, hz0, hz1, hz2⟩ := info_parts info_prc
  have hN := number_of w b len cap a f s h most m0 (by omega)
  have hbd := numS_bd f len most s m0
  have HP : Hid (∀ X sx, Rdr X b a len cap f sx → w.grownBy X (some b) → Calls Tryd.prog 72 #[.pointer (some ⟨b, 0, none⟩)] X (PostP X b a len cap f (rd sx).1 (rd sx).2)) := hP
  have hlo := fun ad he => (h.ap ad he).2
  have bl := h.bl
  obtain ⟨F, hF⟩ : ∃ F, F = rowS f len most rd s := ⟨_, rfl⟩
  rw [← hF]
  unfold rowS at hF
  obtain ⟨n, hn⟩ : ∃ n : Nat, (numS f len most s).1 = (n : Int) := ⟨(numS f len most s).1.toNat, by omega⟩
  rw [hn] at hN hF hbd
  rw [Int.toNat_natCast] at hF
  have hn2 : n ≤ 65536 := by omega
  generalize (numS f len most s).2 = s1 at hN hF
  have HN : Hid (Calls Tryd.prog 87 #[.pointer (some ⟨b, 0, none⟩), .int .u32 most] w (PostR w b a len cap f (.int .i64 (n : Int)) s1)) := hN
  have HF : Hid (F = loopS rd n [] s1) := hF
  have HLo : Hid (∀ ad, a = some ad → ad.block < w.heap.size) := hlo
  clear hN hF hlo hP h hn hbd
  go_enter Tryd.func71, Tryd.ntmps71
  go_wp2_with (go_at_call 87; refine HN.out.mono ?_; rintro e w1 ⟨rfl, hr1, hg1⟩)
  have R1 : Hid (Rdr w1 b a len cap f s1 ∧ w.grownBy w1 (some b)) := ⟨hr1, hg1⟩
  clear hr1 hg1
  go_loopg [7, 8, 12] n (fun gf s7 s8 s12 wx => ∃ (i : Nat) (acc : List (Pc × Sl)) (sx : St), s12 = .int .i64 (i : Int) ∧ i + gf = n ∧ acc.length = i ∧ Hid (F = loopS rd gf (acc.map (·.1)) sx) ∧ Hid (wx.ownsRow w.heap.size 63 3 s7 acc.length (flat pEnc acc) ∧ PsAt wx w.heap.size acc ∧ Rdr wx b a len cap f sx ∧ w.grownBy wx (some b)))
  case atStart => exact ⟨0, [], s1, rfl, by omega, rfl, HF.out, ⟨by simp [flat], .inl ⟨rfl, rfl⟩⟩, (fun p hp => by cases hp), R1.out⟩
  case round =>
    obtain ⟨i, acc, sx, rfl, hi, hacc, HL, HO⟩ := hrel
    by_cases hlt : i < n
    · obtain ⟨g', rfl⟩ : ∃ g', gk = g' + 1 := ⟨gk - 1, by omega⟩
      have d1 : decide ((i : Int) < (n : Int)) = true := decide_eq_true (by omega)
      have PC := HP.out wr sx HO.out.2.2.1 HO.out.2.2.2
      have hl2 := HL.out
      simp only [loopS] at hl2
      obtain ⟨⟨xx, sy⟩, hrd⟩ : ∃ r, rd sx = r := ⟨_, rfl⟩
      rw [hrd] at PC hl2
      simp only at PC hl2
      have HPC : Hid (Calls Tryd.prog 72 #[.pointer (some ⟨b, 0, none⟩)] wr (PostP wr b a len cap f xx sy)) := PC
      clear PC
      cases hst : sy.st
      · rw [hst] at hl2
        simp only [Bool.false_eq_true, if_false] at hl2
        have HL2 : Hid (F = loopS rd g' (acc.map (·.1) ++ [xx]) sy) := hl2
        clear hl2 HL
        go_wp2_with (first
          | (go_at_call 72; refine HPC.out.mono ?_; rintro e w2 ⟨vv, rfl, ho2, hr2, hg2⟩; obtain ⟨va, vn, vc, rfl⟩ := own_slice ho2; have c2 := hr2.c2; rw [hst] at c2; have bl2 := hr2.bl; have hbn : b ≠ w2.heap.size := Nat.ne_of_lt bl2; have HO2 : Hid (w2.ownsRow w.heap.size 63 3 u7 acc.length (flat pEnc acc) ∧ PsAt w2 w.heap.size (acc ++ [(xx, Sl.mk va vn vc)]) ∧ Rdr w2 b a len cap f sy ∧ w.grownBy w2 (some b)) := ⟨own_gb HO.out.1 bl hg2, (HO.out.2.1.gb bl hg2).snoc (own_base ho2 HO.out.2.2.2.size), hr2, gb_trans HO.out.2.2.2 hg2⟩; clear hr2 hg2 HO ho2)
          | (at_builtin; refine wpList_append_own _ rfl _ _ 24 rfl w.heap.size 63 i0 (.agg #[.string ⟨#[]⟩, .slice none 0 0, .int .i64 0]) 3 48 Tryd.underlying24 hi0 hz0 hz1 hz2 rfl (by decide) _ _ _ rfl (own_gb HO2.out.1 bl (gb_of_below (by go_grown) b)) ⟨w2.heap.size + 1, 0, none⟩ 1 1 (Array.toList #[.string xx.nm, .slice va vn vc, .int .i64 xx.rs]) rfl rfl ?c1 ?c2 ?c3 ?c4 ?c5 ?c6)
          | go_in)
        case c2 => first | exact ⟨rfl, rfl⟩ | exact ⟨rfl, rfl, rfl⟩ | exact ⟨rfl, rfl, rfl, rfl⟩
        case c3 => unfold maxLen; omega
        case c4 => omega
        case c5 => have := HO2.out.2.2.2.size; simp; omega
        intro s' w3 hown' hgrow _
        have hlo2 := own_lo HO2.out.1
        have HO3 : Hid (w3.ownsRow w.heap.size 63 3 s' (acc ++ [(xx, Sl.mk va vn vc)]).length (flat pEnc (acc ++ [(xx, Sl.mk va vn vc)])) ∧ PsAt w3 w.heap.size (acc ++ [(xx, Sl.mk va vn vc)]) ∧ Rdr w3 b a len cap f sy ∧ w.grownBy w3 (some b)) :=
          ⟨by rw [List.length_append, flat_snoc, hacc]; exact hown', (HO2.out.2.1.gb bl (gb_of_below (by go_grown) b)).own (own_gb HO2.out.1 bl (gb_of_below (by go_grown) b)) hgrow, (HO2.out.2.2.1.below (by go_grown)).grow HLo.out bl hgrow hlo2, gb_own (gb_trans HO2.out.2.2.2 (gb_of_below (by go_grown) b)) hgrow hlo2⟩
        clear hown' hgrow hlo2 HO2
        go_wp2
        go_roundg g'
        case measure => omega
        case rel => exact ⟨i + 1, acc ++ [(xx, Sl.mk va vn vc)], sy, by simp, by omega, by simp [hacc], by rw [List.map_append]; exact HL2.out, HO3.out⟩
      · rw [hst] at hl2
        simp only [if_true] at hl2
        go_wp2_with (go_at_call 72; refine HPC.out.mono ?_; rintro e w2 ⟨vv, rfl, ho2, hr2, hg2⟩; obtain ⟨va, vn, vc, rfl⟩ := own_slice ho2; have c2 := hr2.c2; rw [hst] at c2; have bl2 := hr2.bl; have hbn : b ≠ w2.heap.size := Nat.ne_of_lt bl2)
        go_ret
        refine ⟨_, [], rfl, ?_, ?_, ?_, ?_, gb_trans (gb_trans HO.out.2.2.2 hg2) (gb_of_below (by go_grown) b)⟩
        · rw [hl2]; rfl
        · exact ⟨by simp [flat], .inl ⟨rfl, rfl⟩⟩
        · intro p hp; cases hp
        · rw [hl2]; exact hr2.below (by go_grown)
    · obtain rfl : gk = 0 := by omega
      have d1 : decide ((i : Int) < (n : Int)) = false := decide_eq_false (by omega)
      have hl2 := HL.out
      simp only [loopS] at hl2
      go_wp2
      go_ret
      refine ⟨_, acc, rfl, ?_, ?_, HO.out.2.1, ?_, HO.out.2.2.2⟩
      · rw [hl2]
      · exact HO.out.1
      · rw [hl2]; exact HO.out.2.2.1
end Go.Proofs.YtcppgpcgbggdcaaDoor
