/-
  Layer 7: rows that the reader reads, of imports and fixes.
-/
import Derived.Test.YtepgifapepaheaaRrw
import Derived.Test.YtepgifapepaheaaRcl
namespace Go.Proofs.Ytepgifapepaheaa
set_option linter.unusedVariables false
set_option linter.unusedSimpArgs false
open Go.ChangeShapes Go.WideShapes Go.ChangeAt Go.RowKit

/-- The cells of a row of things of several. -/
def flat {α : Type} (enc : α → Array Value) (l : List α) : List Value := (l.map fun x => (enc x).toList).flatten
theorem flat_snoc {α : Type} (enc : α → Array Value) (l : List α) (x : α) : flat enc (l ++ [x]) = flat enc l ++ (enc x).toList := by simp [flat]
theorem cells_new {X : World} (cs : Array Value) (t : TypeId) {g : Nat} (hg : g = X.heap.size) : ∀ j u, cs.toList[j]? = some u → (X.alloc (.cells cs t)).cell? ((⟨g, 0, none⟩ : Addr).add j) = some u := by
  intro j u h
  subst hg
  rw [show (⟨X.heap.size, 0, none⟩ : Addr).add j = ⟨X.heap.size, j, none⟩ by (simp [Addr.add]; omega), blk_cell (blk_new X (.cells cs t)) j]
  simpa using h
theorem info_imp : (Try.prog.info? 59).map (fun i => (i.zero, i.size, i.bytes)) = some (some (.agg #[.string ⟨#[]⟩, .int .u32 0]), 2, 24) := by kernel_rfl
set_option maxHeartbeats 8000000 in
set_option maxRecDepth 20000 in
theorem row_imp (rd : St → (ByteArray × Int) × St) (q : Nat) (w : World) (b len cap : Nat) (a : Option Addr) (f : Nat → Int) (s : St) (h : Rdr w b a len cap f s) (most : Int) (m0 : 0 ≤ most) (m1 : most ≤ 65536)
    (hP : ∀ X sx, Rdr X b a len cap f sx → w.grownBy X (some b) → Calls Try.prog 32 #[.pointer (some ⟨q, 0, none⟩)] X (PostR X b a len cap f (.agg ((fun x : (ByteArray × Int) => #[.string x.1, .int .u32 x.2]) (rd sx).1)) (rd sx).2)) :
    Calls Try.prog 31 #[.pointer (some ⟨b, 0, none⟩), .int .u32 most, .func (.func 32) #[] #[.pointer (some ⟨q, 0, none⟩)]] w (PostW w b a len cap f 59 2 (flat (fun x : (ByteArray × Int) => #[.string x.1, .int .u32 x.2]) (rowS f len most rd s).1) (rowS f len most rd s).1.length (rowS f len most rd s).2) := by
  obtain ⟨i0, hi0, hz0, hz1, hz2⟩ := info_parts info_imp
  have hN := number_of w b len cap a f s h most m0 (by omega)
  have hbd := numS_bd f len most s m0
  have HP : Hid (∀ X sx, Rdr X b a len cap f sx → w.grownBy X (some b) → Calls Try.prog 32 #[.pointer (some ⟨q, 0, none⟩)] X (PostR X b a len cap f (.agg ((fun x : (ByteArray × Int) => #[.string x.1, .int .u32 x.2]) (rd sx).1)) (rd sx).2)) := hP
  have hlo := fun ad he => (h.ap ad he).2
  have bl := h.bl
  obtain ⟨F, hF⟩ : ∃ F, F = rowS f len most rd s := ⟨_, rfl⟩
  rw [← hF]
  unfold rowS at hF
  obtain ⟨n, hn⟩ : ∃ n : Nat, (numS f len most s).1 = (n : Int) := ⟨(numS f len most s).1.toNat, by omega⟩
  rw [hn] at hN hF hbd
  rw [Int.toNat_natCast] at hF
  have hn2 : n ≤ 65536 := by omega
  generalize (numS f len most s).2 = s1 at hN hF
  have HN : Hid (Calls Try.prog 28 #[.pointer (some ⟨b, 0, none⟩), .int .u32 most] w (PostR w b a len cap f (.int .i64 (n : Int)) s1)) := hN
  have HF : Hid (F = loopS rd n [] s1) := hF
  have HLo : Hid (∀ ad, a = some ad → ad.block < w.heap.size) := hlo
  clear hN hF hlo hP h hn hbd
  go_enter Try.func31, Try.ntmps31
  go_wp2_with (go_at_call 28; refine HN.out.mono ?_; rintro e w1 ⟨rfl, hr1, hg1⟩)
  have R1 : Hid (Rdr w1 b a len cap f s1 ∧ w.grownBy w1 (some b)) := ⟨hr1, hg1⟩
  clear hr1 hg1
  go_loopg [7, 8, 12] n (fun gf s7 s8 s12 wx => ∃ (i : Nat) (acc : List (ByteArray × Int)) (sx : St), s12 = .int .i64 (i : Int) ∧ i + gf = n ∧ acc.length = i ∧ Hid (F = loopS rd gf acc sx) ∧ Hid (wx.ownsRow w.heap.size 59 2 s7 acc.length (flat (fun x : (ByteArray × Int) => #[.string x.1, .int .u32 x.2]) acc) ∧ Rdr wx b a len cap f sx ∧ w.grownBy wx (some b)))
  case atStart => exact ⟨0, [], s1, rfl, by omega, rfl, HF.out, ⟨by simp [flat], .inl ⟨rfl, rfl⟩⟩, R1.out⟩
  case round =>
    obtain ⟨i, acc, sx, rfl, hi, hacc, HL, HO⟩ := hrel
    by_cases hlt : i < n
    · obtain ⟨g', rfl⟩ : ∃ g', gk = g' + 1 := ⟨gk - 1, by omega⟩
      have d1 : decide ((i : Int) < (n : Int)) = true := decide_eq_true (by omega)
      have PC := HP.out wr sx HO.out.2.1 HO.out.2.2
      have hl2 := HL.out
      simp only [loopS] at hl2
      obtain ⟨⟨xx, sy⟩, hrd⟩ : ∃ r, rd sx = r := ⟨_, rfl⟩
      rw [hrd] at PC hl2
      simp only at PC hl2
      have HPC : Hid (Calls Try.prog 32 #[.pointer (some ⟨q, 0, none⟩)] wr (PostR wr b a len cap f (.agg #[.string xx.1, .int .u32 xx.2]) sy)) := PC
      clear PC
      cases hst : sy.st
      · rw [hst] at hl2
        simp only [Bool.false_eq_true, if_false] at hl2
        have HL2 : Hid (F = loopS rd g' (acc ++ [xx]) sy) := hl2
        clear hl2 HL
        go_wp2_with (first
          | (go_at_call 32; refine HPC.out.mono ?_; rintro e w2 ⟨rfl, hr2, hg2⟩; have c2 := hr2.c2; rw [hst] at c2; have bl2 := hr2.bl; have hbn : b ≠ w2.heap.size := Nat.ne_of_lt bl2; have HO2 : Hid (w2.ownsRow w.heap.size 59 2 u7 acc.length (flat (fun x : (ByteArray × Int) => #[.string x.1, .int .u32 x.2]) acc) ∧ Rdr w2 b a len cap f sy ∧ w.grownBy w2 (some b)) := ⟨own_gb HO.out.1 bl hg2, hr2, gb_trans HO.out.2.2 hg2⟩; clear hr2 hg2 HO)
          | (at_builtin; refine wpList_append_own _ rfl _ _ 25 rfl w.heap.size 59 i0 (.agg #[.string ⟨#[]⟩, .int .u32 0]) 2 24 Try.underlying25 hi0 hz0 hz1 hz2 rfl (by decide) _ _ _ rfl (own_gb HO2.out.1 bl (gb_of_below (by go_grown) b)) ⟨w2.heap.size + 1, 0, none⟩ 1 1 (Array.toList #[.string xx.1, .int .u32 xx.2]) rfl rfl ?c1 ?c2 ?c3 ?c4 ?c5 ?c6)
          | go_in)
        case c2 => first | exact ⟨rfl, rfl⟩ | exact ⟨rfl, rfl, rfl⟩ | exact ⟨rfl, rfl, rfl, rfl⟩
        case c3 => unfold maxLen; omega
        case c4 => omega
        case c5 => have := HO2.out.2.2.size; simp; omega
        intro s' w3 hown' hgrow _
        have hlo2 := own_lo HO2.out.1
        have HO3 : Hid (w3.ownsRow w.heap.size 59 2 s' (acc ++ [xx]).length (flat (fun x : (ByteArray × Int) => #[.string x.1, .int .u32 x.2]) (acc ++ [xx])) ∧ Rdr w3 b a len cap f sy ∧ w.grownBy w3 (some b)) :=
          ⟨by rw [List.length_append, flat_snoc, hacc]; exact hown', (HO2.out.2.1.below (by go_grown)).grow HLo.out bl hgrow hlo2, gb_own (gb_trans HO2.out.2.2 (gb_of_below (by go_grown) b)) hgrow hlo2⟩
        clear hown' hgrow hlo2 HO2
        go_wp2
        go_roundg g'
        case measure => omega
        case rel => exact ⟨i + 1, acc ++ [xx], sy, by simp, by omega, by simp [hacc], HL2.out, HO3.out⟩
      · rw [hst] at hl2
        simp only [if_true] at hl2
        go_wp2_with (go_at_call 32; refine HPC.out.mono ?_; rintro e w2 ⟨rfl, hr2, hg2⟩; have c2 := hr2.c2; rw [hst] at c2; have bl2 := hr2.bl; have hbn : b ≠ w2.heap.size := Nat.ne_of_lt bl2)
        go_ret
        refine ⟨_, rfl, ?_, ?_, gb_trans (gb_trans HO.out.2.2 hg2) (gb_of_below (by go_grown) b)⟩
        · rw [hl2]; exact ⟨by simp [flat], .inl ⟨rfl, rfl⟩⟩
        · rw [hl2]; exact hr2.below (by go_grown)
    · obtain rfl : gk = 0 := by omega
      have d1 : decide ((i : Int) < (n : Int)) = false := decide_eq_false (by omega)
      have hl2 := HL.out
      simp only [loopS] at hl2
      go_wp2
      go_ret
      refine ⟨_, rfl, ?_, ?_, HO.out.2.2⟩
      · rw [hl2]; exact HO.out.1
      · rw [hl2]; exact HO.out.2.1
theorem info_fix : (Try.prog.info? 56).map (fun i => (i.zero, i.size, i.bytes)) = some (some (.agg #[.int .i64 0, .int .i64 0, .int .i64 0, .int .i64 0]), 4, 32) := by kernel_rfl
set_option maxHeartbeats 8000000 in
set_option maxRecDepth 20000 in
theorem row_fix (rd : St → (Int × Int × Int × Int) × St) (nb q : Nat) (w : World) (b len cap : Nat) (a : Option Addr) (f : Nat → Int) (s : St) (h : Rdr w b a len cap f s) (most : Int) (m0 : 0 ≤ most) (m1 : most ≤ 65536)
    (hP : ∀ X sx, Rdr X b a len cap f sx → w.grownBy X (some b) → Calls Try.prog 42 #[.pointer (some ⟨nb, 0, none⟩), .pointer (some ⟨q, 0, none⟩)] X (PostR X b a len cap f (.agg ((fun x : (Int × Int × Int × Int) => #[.int .i64 x.1, .int .i64 x.2.1, .int .i64 x.2.2.1, .int .i64 x.2.2.2]) (rd sx).1)) (rd sx).2)) :
    Calls Try.prog 41 #[.pointer (some ⟨b, 0, none⟩), .int .u32 most, .func (.func 42) #[] #[.pointer (some ⟨nb, 0, none⟩), .pointer (some ⟨q, 0, none⟩)]] w (PostW w b a len cap f 56 4 (flat (fun x : (Int × Int × Int × Int) => #[.int .i64 x.1, .int .i64 x.2.1, .int .i64 x.2.2.1, .int .i64 x.2.2.2]) (rowS f len most rd s).1) (rowS f len most rd s).1.length (rowS f len most rd s).2) := by
  obtain ⟨i0, hi0, hz0, hz1, hz2⟩ := info_parts info_fix
  have hN := number_of w b len cap a f s h most m0 (by omega)
  have hbd := numS_bd f len most s m0
  have HP : Hid (∀ X sx, Rdr X b a len cap f sx → w.grownBy X (some b) → Calls Try.prog 42 #[.pointer (some ⟨nb, 0, none⟩), .pointer (some ⟨q, 0, none⟩)] X (PostR X b a len cap f (.agg ((fun x : (Int × Int × Int × Int) => #[.int .i64 x.1, .int .i64 x.2.1, .int .i64 x.2.2.1, .int .i64 x.2.2.2]) (rd sx).1)) (rd sx).2)) := hP
  have hlo := fun ad he => (h.ap ad he).2
  have bl := h.bl
  obtain ⟨F, hF⟩ : ∃ F, F = rowS f len most rd s := ⟨_, rfl⟩
  rw [← hF]
  unfold rowS at hF
  obtain ⟨n, hn⟩ : ∃ n : Nat, (numS f len most s).1 = (n : Int) := ⟨(numS f len most s).1.toNat, by omega⟩
  rw [hn] at hN hF hbd
  rw [Int.toNat_natCast] at hF
  have hn2 : n ≤ 65536 := by omega
  generalize (numS f len most s).2 = s1 at hN hF
  have HN : Hid (Calls Try.prog 28 #[.pointer (some ⟨b, 0, none⟩), .int .u32 most] w (PostR w b a len cap f (.int .i64 (n : Int)) s1)) := hN
  have HF : Hid (F = loopS rd n [] s1) := hF
  have HLo : Hid (∀ ad, a = some ad → ad.block < w.heap.size) := hlo
  clear hN hF hlo hP h hn hbd
  go_enter Try.func41, Try.ntmps41
  go_wp2_with (go_at_call 28; refine HN.out.mono ?_; rintro e w1 ⟨rfl, hr1, hg1⟩)
  have R1 : Hid (Rdr w1 b a len cap f s1 ∧ w.grownBy w1 (some b)) := ⟨hr1, hg1⟩
  clear hr1 hg1
  go_loopg [7, 8, 12] n (fun gf s7 s8 s12 wx => ∃ (i : Nat) (acc : List (Int × Int × Int × Int)) (sx : St), s12 = .int .i64 (i : Int) ∧ i + gf = n ∧ acc.length = i ∧ Hid (F = loopS rd gf acc sx) ∧ Hid (wx.ownsRow w.heap.size 56 4 s7 acc.length (flat (fun x : (Int × Int × Int × Int) => #[.int .i64 x.1, .int .i64 x.2.1, .int .i64 x.2.2.1, .int .i64 x.2.2.2]) acc) ∧ Rdr wx b a len cap f sx ∧ w.grownBy wx (some b)))
  case atStart => exact ⟨0, [], s1, rfl, by omega, rfl, HF.out, ⟨by simp [flat], .inl ⟨rfl, rfl⟩⟩, R1.out⟩
  case round =>
    obtain ⟨i, acc, sx, rfl, hi, hacc, HL, HO⟩ := hrel
    by_cases hlt : i < n
    · obtain ⟨g', rfl⟩ : ∃ g', gk = g' + 1 := ⟨gk - 1, by omega⟩
      have d1 : decide ((i : Int) < (n : Int)) = true := decide_eq_true (by omega)
      have PC := HP.out wr sx HO.out.2.1 HO.out.2.2
      have hl2 := HL.out
      simp only [loopS] at hl2
      obtain ⟨⟨xx, sy⟩, hrd⟩ : ∃ r, rd sx = r := ⟨_, rfl⟩
      rw [hrd] at PC hl2
      simp only at PC hl2
      have HPC : Hid (Calls Try.prog 42 #[.pointer (some ⟨nb, 0, none⟩), .pointer (some ⟨q, 0, none⟩)] wr (PostR wr b a len cap f (.agg #[.int .i64 xx.1, .int .i64 xx.2.1, .int .i64 xx.2.2.1, .int .i64 xx.2.2.2]) sy)) := PC
      clear PC
      cases hst : sy.st
      · rw [hst] at hl2
        simp only [Bool.false_eq_true, if_false] at hl2
        have HL2 : Hid (F = loopS rd g' (acc ++ [xx]) sy) := hl2
        clear hl2 HL
        go_wp2_with (first
          | (go_at_call 42; refine HPC.out.mono ?_; rintro e w2 ⟨rfl, hr2, hg2⟩; have c2 := hr2.c2; rw [hst] at c2; have bl2 := hr2.bl; have hbn : b ≠ w2.heap.size := Nat.ne_of_lt bl2; have HO2 : Hid (w2.ownsRow w.heap.size 56 4 u7 acc.length (flat (fun x : (Int × Int × Int × Int) => #[.int .i64 x.1, .int .i64 x.2.1, .int .i64 x.2.2.1, .int .i64 x.2.2.2]) acc) ∧ Rdr w2 b a len cap f sy ∧ w.grownBy w2 (some b)) := ⟨own_gb HO.out.1 bl hg2, hr2, gb_trans HO.out.2.2 hg2⟩; clear hr2 hg2 HO)
          | (at_builtin; refine wpList_append_own _ rfl _ _ 31 rfl w.heap.size 56 i0 (.agg #[.int .i64 0, .int .i64 0, .int .i64 0, .int .i64 0]) 4 32 Try.underlying31 hi0 hz0 hz1 hz2 rfl (by decide) _ _ _ rfl (own_gb HO2.out.1 bl (gb_of_below (by go_grown) b)) ⟨w2.heap.size + 1, 0, none⟩ 1 1 (Array.toList #[.int .i64 xx.1, .int .i64 xx.2.1, .int .i64 xx.2.2.1, .int .i64 xx.2.2.2]) rfl rfl ?c1 ?c2 ?c3 ?c4 ?c5 ?c6)
          | go_in)
        case c2 => first | exact ⟨rfl, rfl⟩ | exact ⟨rfl, rfl, rfl⟩ | exact ⟨rfl, rfl, rfl, rfl⟩
        case c3 => unfold maxLen; omega
        case c4 => omega
        case c5 => have := HO2.out.2.2.size; simp; omega
        intro s' w3 hown' hgrow _
        have hlo2 := own_lo HO2.out.1
        have HO3 : Hid (w3.ownsRow w.heap.size 56 4 s' (acc ++ [xx]).length (flat (fun x : (Int × Int × Int × Int) => #[.int .i64 x.1, .int .i64 x.2.1, .int .i64 x.2.2.1, .int .i64 x.2.2.2]) (acc ++ [xx])) ∧ Rdr w3 b a len cap f sy ∧ w.grownBy w3 (some b)) :=
          ⟨by rw [List.length_append, flat_snoc, hacc]; exact hown', (HO2.out.2.1.below (by go_grown)).grow HLo.out bl hgrow hlo2, gb_own (gb_trans HO2.out.2.2 (gb_of_below (by go_grown) b)) hgrow hlo2⟩
        clear hown' hgrow hlo2 HO2
        go_wp2
        go_roundg g'
        case measure => omega
        case rel => exact ⟨i + 1, acc ++ [xx], sy, by simp, by omega, by simp [hacc], HL2.out, HO3.out⟩
      · rw [hst] at hl2
        simp only [if_true] at hl2
        go_wp2_with (go_at_call 42; refine HPC.out.mono ?_; rintro e w2 ⟨rfl, hr2, hg2⟩; have c2 := hr2.c2; rw [hst] at c2; have bl2 := hr2.bl; have hbn : b ≠ w2.heap.size := Nat.ne_of_lt bl2)
        go_ret
        refine ⟨_, rfl, ?_, ?_, gb_trans (gb_trans HO.out.2.2 hg2) (gb_of_below (by go_grown) b)⟩
        · rw [hl2]; exact ⟨by simp [flat], .inl ⟨rfl, rfl⟩⟩
        · rw [hl2]; exact hr2.below (by go_grown)
    · obtain rfl : gk = 0 := by omega
      have d1 : decide ((i : Int) < (n : Int)) = false := decide_eq_false (by omega)
      have hl2 := HL.out
      simp only [loopS] at hl2
      go_wp2
      go_ret
      refine ⟨_, rfl, ?_, ?_, HO.out.2.2⟩
      · rw [hl2]; exact HO.out.1
      · rw [hl2]; exact HO.out.2.1
end Go.Proofs.Ytepgifapepaheaa
