/-
  Layer 7: rows that the reader reads, of things of one cell.
-/
import Derived.Test.YtepgifapepaheaaRdo
namespace Go.Proofs.Ytepgifapepaheaa
set_option linter.unusedVariables false
set_option linter.unusedSimpArgs false
open Go.ChangeShapes Go.WideShapes Go.ChangeAt Go.RowKit

/-- So many things more, behind those that were read; none, where one is none. -/
def loopS {α : Type} (rd : St → α × St) : Nat → List α → St → List α × St
  | 0, acc, s => (acc, s)
  | n + 1, acc, s => if (rd s).2.st then ([], (rd s).2) else loopS rd n (acc ++ [(rd s).1]) (rd s).2
/-- A row: how many, and each. -/
def rowS {α : Type} (f : Nat → Int) (len : Nat) (most : Int) (rd : St → α × St) (s : St) : List α × St := loopS rd (numS f len most s).1.toNat [] (numS f len most s).2
theorem numS_bd (f : Nat → Int) (len : Nat) (most : Int) (s : St) (m0 : 0 ≤ most) : 0 ≤ (numS f len most s).1 ∧ (numS f len most s).1 ≤ most := by
  unfold numS
  cases h : uintR f len s.p with
  | none => simp; exact m0
  | some r =>
    obtain ⟨n, i⟩ := r
    have := uintR_bd h
    simp only
    split
    · rename_i hc
      simp only [Bool.and_eq_true, decide_eq_true_eq] at hc
      exact ⟨this.1, hc.2⟩
    · exact ⟨Int.le_refl _, m0⟩
theorem gb_own {w X Y : World} {b : Nat} {o : Option Nat} (h : w.grownBy X (some b)) (hg : X.grownBy Y o) (ho : ∀ g, o = some g → w.heap.size ≤ g) : w.grownBy Y (some b) :=
  ⟨hg.os.trans h.os, hg.tape.trans h.tape, hg.output.trans h.output, Nat.le_trans h.size hg.size, fun k hk hne => (hg.block k (Nat.lt_of_lt_of_le hk h.size) (fun e => by have := ho k e.symm; omega)).trans (h.block k hk hne)⟩
theorem own_gb {X Y : World} {B b : Nat} {e : TypeId} {k : Nat} {v : Value} {n : Nat} {xs : List Value} (h : X.ownsRow B e k v n xs) (hb : b < B) (hg : X.grownBy Y (some b)) : Y.ownsRow B e k v n xs := by
  refine ⟨h.1, ?_⟩
  rcases h.2 with hn | ⟨g, cap, cur, hv, hb1, hg1, rest⟩
  · exact .inl hn
  · exact .inr ⟨g, cap, cur, hv, hb1, (hg.block g (Array.getElem?_eq_some_iff.1 hg1).1 (fun e => by injection e with e; omega)).trans hg1, rest⟩
theorem own_lo {X : World} {B : Nat} {e : TypeId} {k : Nat} {v : Value} {n : Nat} {xs : List Value} (h : X.ownsRow B e k v n xs) (g : Nat) (hg : v.ownBlock = some g) : B ≤ g := (h.lt g hg).1
/-- The reader is left by what turns none of its blocks. -/
theorem Rdr.grow {w X Y : World} {b len cap : Nat} {a : Option Addr} {f : Nat → Int} {s : St} {o : Option Nat} (h : Rdr X b a len cap f s) (hlo : ∀ ad, a = some ad → ad.block < w.heap.size) (hb : b < w.heap.size) (hg : X.grownBy Y o) (ho : ∀ g, o = some g → w.heap.size ≤ g) : Rdr Y b a len cap f s :=
  h.same hg.size (hg.block _ h.bl (fun e => by have := ho _ e.symm; omega)) fun ad he => hg.block _ (h.ap ad he).2 (fun e => by have := ho _ e.symm; have := hlo ad he; omega)
theorem gb_alloc {w w' : World} {b : Nat} (h : w.grownBy w' (some b)) (x : Obj) : w.grownBy (w'.alloc x) (some b) := gb_trans h (gb_of_below ((Below.refl _ _).alloc (Nat.le_refl _) _) b)
/-- What a row leaves. -/
def PostW (w : World) (b : Nat) (a : Option Addr) (len cap : Nat) (f : Nat → Int) (E : TypeId) (k : Nat) (xs : List Value) (n : Nat) (s : St) (e : Ending) (w' : World) : Prop := ∃ v, e = .returned v ∧ w'.ownsRow w.heap.size E k v n xs ∧ Rdr w' b a len cap f s ∧ w.grownBy w' (some b)
theorem info_u32 : (Try.prog.info? 24).map (fun i => (i.zero, i.size, i.bytes)) = some (some (.int .u32 0), 1, 4) := by kernel_rfl
set_option maxHeartbeats 4000000 in
set_option maxRecDepth 20000 in
theorem row_u32 (rd : St → Int × St) (w : World) (b len cap : Nat) (a : Option Addr) (f : Nat → Int) (s : St) (h : Rdr w b a len cap f s) (most : Int) (m0 : 0 ≤ most) (m1 : most ≤ 65536)
    (hP : ∀ X sx, Rdr X b a len cap f sx → w.grownBy X (some b) → Calls Try.prog 30 #[.pointer (some ⟨b, 0, none⟩)] X (PostR X b a len cap f ((Value.int .u32) (rd sx).1) (rd sx).2)) :
    Calls Try.prog 33 #[.pointer (some ⟨b, 0, none⟩), .int .u32 most, .func (.func 30) #[.pointer (some ⟨b, 0, none⟩)] #[]] w (PostW w b a len cap f 24 1 ((rowS f len most rd s).1.map (Value.int .u32)) (rowS f len most rd s).1.length (rowS f len most rd s).2) := by
  obtain ⟨i0, hi0, hz0, hz1, hz2⟩ := info_parts info_u32
  have hN := number_of w b len cap a f s h most m0 (by omega)
  have hbd := numS_bd f len most s m0
  have HP : Hid (∀ X sx, Rdr X b a len cap f sx → w.grownBy X (some b) → Calls Try.prog 30 #[.pointer (some ⟨b, 0, none⟩)] X (PostR X b a len cap f ((Value.int .u32) (rd sx).1) (rd sx).2)) := hP
  have hlo := fun ad he => (h.ap ad he).2
  have bl := h.bl
  obtain ⟨F, hF⟩ : ∃ F, F = rowS f len most rd s := ⟨_, rfl⟩
  rw [← hF]
  unfold rowS at hF
  obtain ⟨n, hn⟩ : ∃ n : Nat, (numS f len most s).1 = (n : Int) := ⟨(numS f len most s).1.toNat, by omega⟩
  rw [hn] at hN hF hbd
  rw [Int.toNat_natCast] at hF
  have hn2 : n ≤ 65536 := by omega
  generalize (numS f len most s).2 = s1 at hN hF
  have HN : Hid (Calls Try.prog 28 #[.pointer (some ⟨b, 0, none⟩), .int .u32 most] w (PostR w b a len cap f (.int .i64 (n : Int)) s1)) := hN
  have HF : Hid (F = loopS rd n [] s1) := hF
  have HLo : Hid (∀ ad, a = some ad → ad.block < w.heap.size) := hlo
  clear hN hF hlo hP h hn hbd
  go_enter Try.func33, Try.ntmps33
  go_wp2_with (go_at_call 28; refine HN.out.mono ?_; rintro e w1 ⟨rfl, hr1, hg1⟩)
  have R1 : Hid (Rdr w1 b a len cap f s1 ∧ w.grownBy w1 (some b)) := ⟨hr1, hg1⟩
  clear hr1 hg1
  go_loopg [7, 8, 12] n (fun gf s7 s8 s12 wx => ∃ (i : Nat) (acc : List Int) (sx : St), s12 = .int .i64 (i : Int) ∧ i + gf = n ∧ acc.length = i ∧ Hid (F = loopS rd gf acc sx) ∧ Hid (wx.ownsRow w.heap.size 24 1 s7 acc.length (acc.map (Value.int .u32)) ∧ Rdr wx b a len cap f sx ∧ w.grownBy wx (some b)))
  case atStart => exact ⟨0, [], s1, rfl, by omega, rfl, HF.out, ⟨by simp, .inl ⟨rfl, rfl⟩⟩, R1.out⟩
  case round =>
    obtain ⟨i, acc, sx, rfl, hi, hacc, HL, HO⟩ := hrel
    by_cases hlt : i < n
    · obtain ⟨g', rfl⟩ : ∃ g', gk = g' + 1 := ⟨gk - 1, by omega⟩
      have d1 : decide ((i : Int) < (n : Int)) = true := decide_eq_true (by omega)
      have PC := HP.out wr sx HO.out.2.1 HO.out.2.2
      have HPC : Hid (Calls Try.prog 30 #[.pointer (some ⟨b, 0, none⟩)] wr (PostR wr b a len cap f ((Value.int .u32) (rd sx).1) (rd sx).2)) := PC
      clear PC
      have hl2 := HL.out
      simp only [loopS] at hl2
      cases hst : (rd sx).2.st
      · rw [hst] at hl2
        simp only [Bool.false_eq_true, if_false] at hl2
        have HL2 : Hid (F = loopS rd g' (acc ++ [(rd sx).1]) (rd sx).2) := hl2
        clear hl2 HL
        go_wp2_with (first
          | (go_at_call 30; refine HPC.out.mono ?_; rintro e w2 ⟨rfl, hr2, hg2⟩; have c2 := hr2.c2; rw [hst] at c2; have HO2 : Hid (w2.ownsRow w.heap.size 24 1 u7 acc.length (acc.map (Value.int .u32)) ∧ Rdr w2 b a len cap f (rd sx).2 ∧ w.grownBy w2 (some b)) := ⟨own_gb HO.out.1 bl hg2, hr2, gb_trans HO.out.2.2 hg2⟩; clear hr2 hg2 HO)
          | (at_builtin; refine wpList_append_own _ rfl _ _ 26 rfl w.heap.size 24 i0 (.int .u32 0) 1 4 Try.underlying26 hi0 hz0 hz1 hz2 rfl (by decide) _ _ _ rfl (HO2.out.1.alloc _) ⟨w2.heap.size, 0, none⟩ 1 1 [(Value.int .u32) (rd sx).1] rfl rfl ?c1 ?c2 ?c3 ?c4 ?c5 ?c6)
          | go_in)
        case c1 => exact cell_one _ _ _
        case c2 => intro u hu; simp at hu; subst hu; rfl
        case c3 => unfold maxLen; omega
        case c4 => omega
        case c5 => have := HO2.out.2.2.size; simp; omega
        intro s' w3 hown' hgrow _
        have hlo2 := own_lo HO2.out.1
        have HO3 : Hid (w3.ownsRow w.heap.size 24 1 s' (acc ++ [(rd sx).1]).length ((acc ++ [(rd sx).1]).map (Value.int .u32)) ∧ Rdr w3 b a len cap f (rd sx).2 ∧ w.grownBy w3 (some b)) :=
          ⟨by rw [List.length_append, List.map_append, hacc]; exact hown', (HO2.out.2.1.below ((Below.refl _ _).alloc (Nat.le_refl _) _)).grow HLo.out bl hgrow hlo2, gb_own (gb_alloc HO2.out.2.2 _) hgrow hlo2⟩
        clear hown' hgrow hlo2 HO2
        go_wp2
        go_roundg g'
        case measure => omega
        case rel => exact ⟨i + 1, acc ++ [(rd sx).1], (rd sx).2, by simp, by omega, by simp [hacc], HL2.out, HO3.out⟩
      · rw [hst] at hl2
        simp only [if_true] at hl2
        go_wp2_with (go_at_call 30; refine HPC.out.mono ?_; rintro e w2 ⟨rfl, hr2, hg2⟩; have c2 := hr2.c2; rw [hst] at c2)
        go_ret
        refine ⟨_, rfl, ?_, ?_, gb_trans HO.out.2.2 hg2⟩
        · rw [hl2]; exact ⟨by simp, .inl ⟨rfl, rfl⟩⟩
        · rw [hl2]; exact hr2
    · obtain rfl : gk = 0 := by omega
      have d1 : decide ((i : Int) < (n : Int)) = false := decide_eq_false (by omega)
      have hl2 := HL.out
      simp only [loopS] at hl2
      go_wp2
      go_ret
      refine ⟨_, rfl, ?_, ?_, HO.out.2.2⟩
      · rw [hl2]; exact HO.out.1
      · rw [hl2]; exact HO.out.2.1
theorem info_int : (Try.prog.info? 3).map (fun i => (i.zero, i.size, i.bytes)) = some (some (.int .i64 0), 1, 8) := by kernel_rfl
set_option maxHeartbeats 4000000 in
set_option maxRecDepth 20000 in
theorem row_int (rd : St → Int × St) (q : Nat) (w : World) (b len cap : Nat) (a : Option Addr) (f : Nat → Int) (s : St) (h : Rdr w b a len cap f s) (most : Int) (m0 : 0 ≤ most) (m1 : most ≤ 65536)
    (hP : ∀ X sx, Rdr X b a len cap f sx → w.grownBy X (some b) → Calls Try.prog 27 #[.pointer (some ⟨q, 0, none⟩)] X (PostR X b a len cap f ((Value.int .i64) (rd sx).1) (rd sx).2)) :
    Calls Try.prog 34 #[.pointer (some ⟨b, 0, none⟩), .int .u32 most, .func (.func 27) #[] #[.pointer (some ⟨q, 0, none⟩)]] w (PostW w b a len cap f 3 1 ((rowS f len most rd s).1.map (Value.int .i64)) (rowS f len most rd s).1.length (rowS f len most rd s).2) := by
  obtain ⟨i0, hi0, hz0, hz1, hz2⟩ := info_parts info_int
  have hN := number_of w b len cap a f s h most m0 (by omega)
  have hbd := numS_bd f len most s m0
  have HP : Hid (∀ X sx, Rdr X b a len cap f sx → w.grownBy X (some b) → Calls Try.prog 27 #[.pointer (some ⟨q, 0, none⟩)] X (PostR X b a len cap f ((Value.int .i64) (rd sx).1) (rd sx).2)) := hP
  have hlo := fun ad he => (h.ap ad he).2
  have bl := h.bl
  obtain ⟨F, hF⟩ : ∃ F, F = rowS f len most rd s := ⟨_, rfl⟩
  rw [← hF]
  unfold rowS at hF
  obtain ⟨n, hn⟩ : ∃ n : Nat, (numS f len most s).1 = (n : Int) := ⟨(numS f len most s).1.toNat, by omega⟩
  rw [hn] at hN hF hbd
  rw [Int.toNat_natCast] at hF
  have hn2 : n ≤ 65536 := by omega
  generalize (numS f len most s).2 = s1 at hN hF
  have HN : Hid (Calls Try.prog 28 #[.pointer (some ⟨b, 0, none⟩), .int .u32 most] w (PostR w b a len cap f (.int .i64 (n : Int)) s1)) := hN
  have HF : Hid (F = loopS rd n [] s1) := hF
  have HLo : Hid (∀ ad, a = some ad → ad.block < w.heap.size) := hlo
  clear hN hF hlo hP h hn hbd
  go_enter Try.func34, Try.ntmps34
  go_wp2_with (go_at_call 28; refine HN.out.mono ?_; rintro e w1 ⟨rfl, hr1, hg1⟩)
  have R1 : Hid (Rdr w1 b a len cap f s1 ∧ w.grownBy w1 (some b)) := ⟨hr1, hg1⟩
  clear hr1 hg1
  go_loopg [7, 8, 12] n (fun gf s7 s8 s12 wx => ∃ (i : Nat) (acc : List Int) (sx : St), s12 = .int .i64 (i : Int) ∧ i + gf = n ∧ acc.length = i ∧ Hid (F = loopS rd gf acc sx) ∧ Hid (wx.ownsRow w.heap.size 3 1 s7 acc.length (acc.map (Value.int .i64)) ∧ Rdr wx b a len cap f sx ∧ w.grownBy wx (some b)))
  case atStart => exact ⟨0, [], s1, rfl, by omega, rfl, HF.out, ⟨by simp, .inl ⟨rfl, rfl⟩⟩, R1.out⟩
  case round =>
    obtain ⟨i, acc, sx, rfl, hi, hacc, HL, HO⟩ := hrel
    by_cases hlt : i < n
    · obtain ⟨g', rfl⟩ : ∃ g', gk = g' + 1 := ⟨gk - 1, by omega⟩
      have d1 : decide ((i : Int) < (n : Int)) = true := decide_eq_true (by omega)
      have PC := HP.out wr sx HO.out.2.1 HO.out.2.2
      have HPC : Hid (Calls Try.prog 27 #[.pointer (some ⟨q, 0, none⟩)] wr (PostR wr b a len cap f ((Value.int .i64) (rd sx).1) (rd sx).2)) := PC
      clear PC
      have hl2 := HL.out
      simp only [loopS] at hl2
      cases hst : (rd sx).2.st
      · rw [hst] at hl2
        simp only [Bool.false_eq_true, if_false] at hl2
        have HL2 : Hid (F = loopS rd g' (acc ++ [(rd sx).1]) (rd sx).2) := hl2
        clear hl2 HL
        go_wp2_with (first
          | (go_at_call 27; refine HPC.out.mono ?_; rintro e w2 ⟨rfl, hr2, hg2⟩; have c2 := hr2.c2; rw [hst] at c2; have HO2 : Hid (w2.ownsRow w.heap.size 3 1 u7 acc.length (acc.map (Value.int .i64)) ∧ Rdr w2 b a len cap f (rd sx).2 ∧ w.grownBy w2 (some b)) := ⟨own_gb HO.out.1 bl hg2, hr2, gb_trans HO.out.2.2 hg2⟩; clear hr2 hg2 HO)
          | (at_builtin; refine wpList_append_own _ rfl _ _ 27 rfl w.heap.size 3 i0 (.int .i64 0) 1 8 Try.underlying27 hi0 hz0 hz1 hz2 rfl (by decide) _ _ _ rfl (HO2.out.1.alloc _) ⟨w2.heap.size, 0, none⟩ 1 1 [(Value.int .i64) (rd sx).1] rfl rfl ?c1 ?c2 ?c3 ?c4 ?c5 ?c6)
          | go_in)
        case c1 => exact cell_one _ _ _
        case c2 => intro u hu; simp at hu; subst hu; rfl
        case c3 => unfold maxLen; omega
        case c4 => omega
        case c5 => have := HO2.out.2.2.size; simp; omega
        intro s' w3 hown' hgrow _
        have hlo2 := own_lo HO2.out.1
        have HO3 : Hid (w3.ownsRow w.heap.size 3 1 s' (acc ++ [(rd sx).1]).length ((acc ++ [(rd sx).1]).map (Value.int .i64)) ∧ Rdr w3 b a len cap f (rd sx).2 ∧ w.grownBy w3 (some b)) :=
          ⟨by rw [List.length_append, List.map_append, hacc]; exact hown', (HO2.out.2.1.below ((Below.refl _ _).alloc (Nat.le_refl _) _)).grow HLo.out bl hgrow hlo2, gb_own (gb_alloc HO2.out.2.2 _) hgrow hlo2⟩
        clear hown' hgrow hlo2 HO2
        go_wp2
        go_roundg g'
        case measure => omega
        case rel => exact ⟨i + 1, acc ++ [(rd sx).1], (rd sx).2, by simp, by omega, by simp [hacc], HL2.out, HO3.out⟩
      · rw [hst] at hl2
        simp only [if_true] at hl2
        go_wp2_with (go_at_call 27; refine HPC.out.mono ?_; rintro e w2 ⟨rfl, hr2, hg2⟩; have c2 := hr2.c2; rw [hst] at c2)
        go_ret
        refine ⟨_, rfl, ?_, ?_, gb_trans HO.out.2.2 hg2⟩
        · rw [hl2]; exact ⟨by simp, .inl ⟨rfl, rfl⟩⟩
        · rw [hl2]; exact hr2
    · obtain rfl : gk = 0 := by omega
      have d1 : decide ((i : Int) < (n : Int)) = false := decide_eq_false (by omega)
      have hl2 := HL.out
      simp only [loopS] at hl2
      go_wp2
      go_ret
      refine ⟨_, rfl, ?_, ?_, HO.out.2.2⟩
      · rw [hl2]; exact HO.out.1
      · rw [hl2]; exact HO.out.2.1
theorem info_str : (Try.prog.info? 9).map (fun i => (i.zero, i.size, i.bytes)) = some (some (.string ⟨#[]⟩), 1, 16) := by kernel_rfl
set_option maxHeartbeats 4000000 in
set_option maxRecDepth 20000 in
theorem row_str (rd : St → ByteArray × St) (q : Nat) (w : World) (b len cap : Nat) (a : Option Addr) (f : Nat → Int) (s : St) (h : Rdr w b a len cap f s) (most : Int) (m0 : 0 ≤ most) (m1 : most ≤ 65536)
    (hP : ∀ X sx, Rdr X b a len cap f sx → w.grownBy X (some b) → Calls Try.prog 38 #[.pointer (some ⟨q, 0, none⟩)] X (PostR X b a len cap f (Value.string (rd sx).1) (rd sx).2)) :
    Calls Try.prog 37 #[.pointer (some ⟨b, 0, none⟩), .int .u32 most, .func (.func 38) #[] #[.pointer (some ⟨q, 0, none⟩)]] w (PostW w b a len cap f 9 1 ((rowS f len most rd s).1.map Value.string) (rowS f len most rd s).1.length (rowS f len most rd s).2) := by
  obtain ⟨i0, hi0, hz0, hz1, hz2⟩ := info_parts info_str
  have hN := number_of w b len cap a f s h most m0 (by omega)
  have hbd := numS_bd f len most s m0
  have HP : Hid (∀ X sx, Rdr X b a len cap f sx → w.grownBy X (some b) → Calls Try.prog 38 #[.pointer (some ⟨q, 0, none⟩)] X (PostR X b a len cap f (Value.string (rd sx).1) (rd sx).2)) := hP
  have hlo := fun ad he => (h.ap ad he).2
  have bl := h.bl
  obtain ⟨F, hF⟩ : ∃ F, F = rowS f len most rd s := ⟨_, rfl⟩
  rw [← hF]
  unfold rowS at hF
  obtain ⟨n, hn⟩ : ∃ n : Nat, (numS f len most s).1 = (n : Int) := ⟨(numS f len most s).1.toNat, by omega⟩
  rw [hn] at hN hF hbd
  rw [Int.toNat_natCast] at hF
  have hn2 : n ≤ 65536 := by omega
  generalize (numS f len most s).2 = s1 at hN hF
  have HN : Hid (Calls Try.prog 28 #[.pointer (some ⟨b, 0, none⟩), .int .u32 most] w (PostR w b a len cap f (.int .i64 (n : Int)) s1)) := hN
  have HF : Hid (F = loopS rd n [] s1) := hF
  have HLo : Hid (∀ ad, a = some ad → ad.block < w.heap.size) := hlo
  clear hN hF hlo hP h hn hbd
  go_enter Try.func37, Try.ntmps37
  go_wp2_with (go_at_call 28; refine HN.out.mono ?_; rintro e w1 ⟨rfl, hr1, hg1⟩)
  have R1 : Hid (Rdr w1 b a len cap f s1 ∧ w.grownBy w1 (some b)) := ⟨hr1, hg1⟩
  clear hr1 hg1
  go_loopg [7, 8, 12] n (fun gf s7 s8 s12 wx => ∃ (i : Nat) (acc : List ByteArray) (sx : St), s12 = .int .i64 (i : Int) ∧ i + gf = n ∧ acc.length = i ∧ Hid (F = loopS rd gf acc sx) ∧ Hid (wx.ownsRow w.heap.size 9 1 s7 acc.length (acc.map Value.string) ∧ Rdr wx b a len cap f sx ∧ w.grownBy wx (some b)))
  case atStart => exact ⟨0, [], s1, rfl, by omega, rfl, HF.out, ⟨by simp, .inl ⟨rfl, rfl⟩⟩, R1.out⟩
  case round =>
    obtain ⟨i, acc, sx, rfl, hi, hacc, HL, HO⟩ := hrel
    by_cases hlt : i < n
    · obtain ⟨g', rfl⟩ : ∃ g', gk = g' + 1 := ⟨gk - 1, by omega⟩
      have d1 : decide ((i : Int) < (n : Int)) = true := decide_eq_true (by omega)
      have PC := HP.out wr sx HO.out.2.1 HO.out.2.2
      have HPC : Hid (Calls Try.prog 38 #[.pointer (some ⟨q, 0, none⟩)] wr (PostR wr b a len cap f (Value.string (rd sx).1) (rd sx).2)) := PC
      clear PC
      have hl2 := HL.out
      simp only [loopS] at hl2
      cases hst : (rd sx).2.st
      · rw [hst] at hl2
        simp only [Bool.false_eq_true, if_false] at hl2
        have HL2 : Hid (F = loopS rd g' (acc ++ [(rd sx).1]) (rd sx).2) := hl2
        clear hl2 HL
        go_wp2_with (first
          | (go_at_call 38; refine HPC.out.mono ?_; rintro e w2 ⟨rfl, hr2, hg2⟩; have c2 := hr2.c2; rw [hst] at c2; have HO2 : Hid (w2.ownsRow w.heap.size 9 1 u7 acc.length (acc.map Value.string) ∧ Rdr w2 b a len cap f (rd sx).2 ∧ w.grownBy w2 (some b)) := ⟨own_gb HO.out.1 bl hg2, hr2, gb_trans HO.out.2.2 hg2⟩; clear hr2 hg2 HO)
          | (at_builtin; refine wpList_append_own _ rfl _ _ 28 rfl w.heap.size 9 i0 (.string ⟨#[]⟩) 1 16 Try.underlying28 hi0 hz0 hz1 hz2 rfl (by decide) _ _ _ rfl (HO2.out.1.alloc _) ⟨w2.heap.size, 0, none⟩ 1 1 [Value.string (rd sx).1] rfl rfl ?c1 ?c2 ?c3 ?c4 ?c5 ?c6)
          | go_in)
        case c1 => exact cell_one _ _ _
        case c2 => intro u hu; simp at hu; subst hu; rfl
        case c3 => unfold maxLen; omega
        case c4 => omega
        case c5 => have := HO2.out.2.2.size; simp; omega
        intro s' w3 hown' hgrow _
        have hlo2 := own_lo HO2.out.1
        have HO3 : Hid (w3.ownsRow w.heap.size 9 1 s' (acc ++ [(rd sx).1]).length ((acc ++ [(rd sx).1]).map Value.string) ∧ Rdr w3 b a len cap f (rd sx).2 ∧ w.grownBy w3 (some b)) :=
          ⟨by rw [List.length_append, List.map_append, hacc]; exact hown', (HO2.out.2.1.below ((Below.refl _ _).alloc (Nat.le_refl _) _)).grow HLo.out bl hgrow hlo2, gb_own (gb_alloc HO2.out.2.2 _) hgrow hlo2⟩
        clear hown' hgrow hlo2 HO2
        go_wp2
        go_roundg g'
        case measure => omega
        case rel => exact ⟨i + 1, acc ++ [(rd sx).1], (rd sx).2, by simp, by omega, by simp [hacc], HL2.out, HO3.out⟩
      · rw [hst] at hl2
        simp only [if_true] at hl2
        go_wp2_with (go_at_call 38; refine HPC.out.mono ?_; rintro e w2 ⟨rfl, hr2, hg2⟩; have c2 := hr2.c2; rw [hst] at c2)
        go_ret
        refine ⟨_, rfl, ?_, ?_, gb_trans HO.out.2.2 hg2⟩
        · rw [hl2]; exact ⟨by simp, .inl ⟨rfl, rfl⟩⟩
        · rw [hl2]; exact hr2
    · obtain rfl : gk = 0 := by omega
      have d1 : decide ((i : Int) < (n : Int)) = false := decide_eq_false (by omega)
      have hl2 := HL.out
      simp only [loopS] at hl2
      go_wp2
      go_ret
      refine ⟨_, rfl, ?_, ?_, HO.out.2.2⟩
      · rw [hl2]; exact HO.out.1
      · rw [hl2]; exact HO.out.2.1
end Go.Proofs.Ytepgifapepaheaa
