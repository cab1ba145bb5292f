/-
  The document's layer 6: Text: the plain text of every row of words.
  The walk of the law AsmTexts: it returns true.
  The walk of the law AsmBack: it returns true.
-/
import Derived.Test.YtkidfnhgknkpiaaGreatDoorT1
import Derived.Test.YtkidfnhgknkpiaaGreatDoorR67
import Derived.Test.YtkidfnhgknkpiaaGreatDoorShowsW
import Derived.Test.YtkidfnhgknkpiaaGreatDoorBkA
namespace Go.Proofs.YtkidfnhgknkpiaaGreatDoor
set_option linter.unusedVariables false
set_option linter.unusedSimpArgs false
open Go.ChangeShapes Go.WideShapes Go.ChangeAt Go.RowKit
attribute [local go_sem ↓] loadIn_seal storeIn_seal
attribute [local go_sem] loadIn_run storeIn_run rowAt_at rowAt_old rowAt_drew rowAt_drewN roomCpu_new roomIn_new roomAt_old roomAt_drew roomAt_drewN putCpu_new putIn_new Cp.zero_fold In.fold putRow_past rowCpu_put rowIn_put size_put putRow_drew putRow_drewN alloc_drewN setCell_drewN Cp.at16 Cp.at17 Cp.at18 Cp.at19 Cp.at20 Cp.at21 Cp.size Cp.set16 Cp.set17 Cp.set18 Cp.set19 Cp.set20 Cp.set21 In.at0 In.at1 In.at2 In.at3 In.at4 In.at5 In.at6 In.at7 In.size In.set0 In.set1 In.set2 In.set3 In.ne Cp.ne In.set4 In.set5 In.set6 In.set7

theorem lines_len (n : Nat) : ∀ (l : List Int) (k : Nat), (∀ x ∈ l, 0 ≤ x ∧ x ≤ 4294967295) → (linesP l k).length ≤ 80 * l.length
  | [], _, _ => by simp [linesP]
  | x :: r, k, h => by
    have h1 := show_len x (4 * k) (h x (by simp)).1 (h x (by simp)).2
    have h2 := lines_len n r (k + 1) (fun y hy => h y (by simp [hy]))
    simp only [linesP, List.length_append, List.length_cons, List.length_nil]
    omega
theorem textTo_len (L : List Int) (k : Nat) (hk : k ≤ L.length) (hL : ∀ j (h : j < L.length), 0 ≤ L[j] ∧ L[j] ≤ 4294967295) : (textTo L k).length ≤ 80 * k := by
  have := lines_len 0 (L.take k) 0 (fun x hx => by
    obtain ⟨j, hj, rfl⟩ := List.getElem_of_mem (List.mem_of_mem_take hx)
    exact hL j hj)
  rw [List.length_take] at this
  unfold textTo
  omega
theorem cell_ten (w : World) (t : TypeId) : ∀ j u, [Value.int .u8 10][j]? = some u → (w.alloc (.cells #[.int .u8 10] t)).cell? ((⟨w.heap.size, 0, none⟩ : Addr).add j) = some u := cell_new1 w _ t
set_option maxHeartbeats 2000000 in
set_option maxRecDepth 20000 in
theorem rtext_any (L : List Int) (a : Option Addr) (c : Nat) (w : World) (hL : ∀ j (h : j < L.length), 0 ≤ L[j] ∧ L[j] ≤ 4294967295) (hA : WordsAt w a L) (hm : L.length ≤ 9223372036854775807) :
    Calls Tryz.prog 13 #[.slice a L.length c] w fun e w' => e = .returned (.tuple #[.string (bs (textT L)), .int .i64 (textE L)]) ∧ Below w.heap.size w w' := by
  by_cases h : 16384 < L.length
  · have hk : textOk L = false := by simp [textOk]; omega
    have hd : decide (16384 < (L.length : Int)) = true := by simp; omega
    have e1 : textT L = [] := by simp [textT, hk]
    have e2 : textE L = 60 := by simp [textE, hk]
    rw [e1, e2]
    clear hA hL
    go_enter Tryz.func13, Tryz.ntmps13
    go_wp2
    go_ret2
    exact ⟨rfl, Below.refl _ _⟩
  · have hd : decide (16384 < (L.length : Int)) = false := by simp; omega
    have HA : Hid (WordsAt w a L) := hA
    have HL : Hid (∀ j (h : j < L.length), 0 ≤ L[j] ∧ L[j] ≤ 4294967295) := hL
    obtain ⟨i0, hi0, hz0, hz1, hz2⟩ := info_parts infoU8
    clear hA hL
    go_enter Tryz.func13, Tryz.ntmps13
    go_wp2
    go_loopg [4, 5] L.length (fun gf s4 s5 wx => ∃ k : Nat, k ≤ L.length ∧ L.length ≤ k + gf ∧ s5 = .int .i64 k ∧ wx.ownsRow w.heap.size 5 1 s4 (textTo L k).length (Lib.strCells (bs (textTo L k))) ∧ Below w.heap.size w wx)
    case atStart => exact ⟨0, by omega, by omega, rfl, ⟨rfl, .inl ⟨rfl, rfl⟩⟩, Below.refl _ _⟩
    case round =>
      obtain ⟨k, hk, hgk, rfl, hown, hbw⟩ := hrel
      have hbs := hbw.size
      have hlen := textTo_len L k hk HL.out
      by_cases hk2 : k < L.length
      · obtain ⟨g', rfl⟩ : ∃ g', gk = g' + 1 := ⟨gk - 1, by omega⟩
        obtain ⟨b, off, rfl, hb, hc⟩ := HA.out k hk2
        have hcr : wr.cell? ⟨b, off + k, none⟩ = some (.int .u32 L[k]) := (hbw.cell (p := ⟨b, _, none⟩) hb).trans hc
        obtain ⟨x0, x1⟩ := HL.out k hk2
        have hsu := textTo_succ L k hk2
        have hsl := show_len L[k] (4 * k) x0 x1
        generalize L[k] = x at hcr x0 x1 hsu hsl
        have hkd : decide ((k : Int) < L.length) = true := by simp; omega
        have hwl2 : 4 * (k : Int) % 4294967296 = 4 * k := by omega
        have HO : Hid (wr.ownsRow w.heap.size 5 1 u4 (textTo L k).length (Lib.strCells (bs (textTo L k)))) := hown
        have SH : Hid (∀ z, z = 4 * (k : Int) → Calls Tryz.prog 10 #[.int .u32 x, .int .u32 z] wr fun e w' => e = .returned (.string (bs (showP x (4 * k)))) ∧ Below wr.heap.size wr w') := fun z hz => by rw [hz]; exact rshow_any x (4 * k) wr x0 x1
        have hz : (bs (showP x (4 * k))).size = (showP x (4 * k)).length := bs_size _
        clear hown hc
        have e3 : (textTo L k).length + (bs (showP x (4 * k))).size + 1 = (textTo L (k + 1)).length := by rw [hsu, hz]; simp; omega
        have e4 : Lib.strCells (bs (textTo L k)) ++ Lib.strCells (bs (showP x (4 * k))) ++ [.int .u8 10] = Lib.strCells (bs (textTo L (k + 1))) := by
          rw [hsu, bcells_app, ← bcells_app _ [10]]; rfl
        have E4 : Hid (_ = Lib.strCells (bs (textTo L (k + 1)))) := e4
        clear hsu e4
        go_wp2_with (first | (go_at_call 10; refine (SH.out _ (by first | rfl | omega)).mono ?_; rintro e w1 ⟨rfl, hb1⟩; (rename_i K hK; refine hK _ _ ?_); (refine Lib.wpList_append_own_string _ rfl _ _ 38 9 rfl w.heap.size 5 i0 Tryz.underlying38 Tryz.underlying9 hi0 hz0 hz1 hz2 _ _ _ rfl (own_call HO.out hb1) (bs (showP x (4 * k))) rfl (by rw [hz]; unfold maxLen; omega) (by rw [hz]; omega) (by have := hb1.size; omega) ?_); intro v2 w2 hown2 hgrow2 hn2) | (at_builtin; have hx := hown2; clear hx; go_loud (refine wpList_append_own _ rfl _ _ 38 rfl w.heap.size 5 i0 (.int .u8 0) 1 1 Tryz.underlying38 hi0 hz0 hz1 hz2 rfl (by decide) _ _ _ rfl (hown2.alloc _) ⟨w2.heap.size, 0, none⟩ 1 1 [.int .u8 10] rfl rfl (cell_ten _ _) (by intro u hu; simp at hu; subst hu; rfl) (by rw [e3]; unfold maxLen; omega) (by rw [e3]; omega) (by have := hgrow2.size; have := hb1.size; simp; omega) ?_); intro v3 w3 hown3 hgrow3 hn3; rw [e3, E4.out] at hown3))
        have B1 : Below w.heap.size w w1 := hbw.trans (hb1.mono hbw.size)
        have B2 : Below w.heap.size w w2 := B1.grown hgrow2 B1.size (fun g hg => (HO.out.lt g hg).1)
        have B3 : Below w.heap.size w w3 := (B2.alloc B2.size _).grown hgrow3 (by have := B2.size; simp; omega) (fun g hg => (hown2.lt g hg).1)
        go_roundg g'
        case measure => omega
        case rel => exact ⟨k + 1, by omega, by omega, by go_num, hown3, B3⟩
      · obtain rfl : k = L.length := by omega
        have hkd : decide ((L.length : Int) < L.length) = false := by simp
        obtain ⟨sa, sc, rfl⟩ := own_slice hown
        have hcv := conv_own hown wr (fun _ _ => rfl)
        clear hown
        by_cases hbig : 65536 < (textTo L L.length).length
        · have hdl : decide ((65536 : Int) < ((textTo L L.length).length : Int)) = true := by simp; omega
          have hno : textOk L = false := by rw [textTo_all] at hbig; simp [textOk]; omega
          have HT : Hid (textT L = []) := by show textT L = []; simp [textT, hno]
          have HE : Hid (textE L = 60) := by show textE L = 60; simp [textE, hno]
          clear hno
          generalize textTo L L.length = t at hcv hbig hdl hlen
          go_wp2
          go_ret2
          exact ⟨by rw [HT.out, HE.out]; rfl, hbw⟩
        · have hdl : decide ((65536 : Int) < ((textTo L L.length).length : Int)) = false := by simp; omega
          have hok : textOk L = true := by rw [textTo_all] at hbig; simp [textOk]; omega
          have HT : Hid (textT L = textTo L L.length) := by show textT L = textTo L L.length; rw [textTo_all]; simp [textT, hok]
          have HE : Hid (textE L = 0) := by show textE L = 0; simp [textE, hok]
          clear hok
          generalize textTo L L.length = t at hcv hbig hdl HT hlen
          go_wp2
          go_ret2
          exact ⟨by rw [HT.out, HE.out]; rfl, hbw⟩
end Go.Proofs.YtkidfnhgknkpiaaGreatDoor
namespace Go.Proofs.YtkidfnhgknkpiaaGreatDoor
set_option linter.unusedVariables false
set_option linter.unusedSimpArgs false
open Go.ChangeShapes Go.WideShapes Go.ChangeAt Go.RowKit
attribute [local go_sem ↓] loadIn_seal storeIn_seal
attribute [local go_sem] loadIn_run storeIn_run rowAt_at rowAt_old rowAt_drew rowAt_drewN roomCpu_new roomIn_new roomAt_old roomAt_drew roomAt_drewN putCpu_new putIn_new Cp.zero_fold In.fold putRow_past rowCpu_put rowIn_put size_put putRow_drew putRow_drewN alloc_drewN setCell_drewN Cp.at16 Cp.at17 Cp.at18 Cp.at19 Cp.at20 Cp.at21 Cp.size Cp.set16 Cp.set17 Cp.set18 Cp.set19 Cp.set20 Cp.set21 In.at0 In.at1 In.at2 In.at3 In.at4 In.at5 In.at6 In.at7 In.size In.set0 In.set1 In.set2 In.set3 In.ne Cp.ne In.set4 In.set5 In.set6 In.set7

/-- The words of a slice, as a row. -/
def rowW (f : Nat → Int) (len : Nat) : List Int := (List.range len).map f
theorem rowW_len (f : Nat → Int) (len : Nat) : (rowW f len).length = len := by simp [rowW]
theorem rowW_at {f : Nat → Int} {len j : Nat} (h : j < (rowW f len).length) : (rowW f len)[j] = f j := by simp [rowW]
theorem words_of {w : World} {a : Option Addr} {len : Nat} {f : Nat → Int} (h : RdW w a len f) : WordsAt w a (rowW f len) ∧ ∀ j (hj : j < (rowW f len).length), 0 ≤ (rowW f len)[j] ∧ (rowW f len)[j] ≤ 4294967295 := by
  refine ⟨fun j hj => ?_, fun j hj => ?_⟩
  · obtain ⟨b, off, ha, hc, _⟩ := h.2 j (by rw [rowW_len] at hj; exact hj)
    exact ⟨b, off, ha, World.block_lt_of_cell? w _ hc, by rw [rowW_at]; exact hc⟩
  · rw [rowW_at]
    obtain ⟨_, _, _, _, hb⟩ := h.2 j (by rw [rowW_len] at hj; exact hj)
    exact hb
set_option maxHeartbeats 4000000 in
set_option maxRecDepth 20000 in
theorem texts_walk (a : Option Addr) (L : List Int) (cap : Nat) (w : World) (V : Vars w) (hL : ∀ j (h : j < L.length), 0 ≤ L[j] ∧ L[j] ≤ 4294967295) (hA : WordsAt w a L) (hm : L.length ≤ 9223372036854775807) :
    Calls Tryz.prog 4 #[.slice a L.length cap] w fun e w' => e = .returned (.bool true) ∧ Below w.heap.size w w' := by
  have T1 : Hid (Calls Tryz.prog 12 #[.slice a L.length cap] w _) := text_any L a cap w V hL hA hm
  have T2 : Hid (∀ X, Below w.heap.size w X → Calls Tryz.prog 13 #[.slice a L.length cap] X _) := fun X hX => rtext_any L a cap X hL (words_below hA hX) hm
  have HV : Hid (Vars w) := V
  clear V hL hA
  generalize textT L = t at T1 T2
  generalize textE L = k at T1 T2
  go_enter Tryz.func4, Tryz.ntmps4
  go_wp2_with (first
    | (go_at_call 12; refine T1.out.mono ?_; rintro e w1 ⟨rfl, hb1⟩)
    | (go_at_call 13; refine (T2.out _ hb1).mono ?_; rintro e w2 ⟨rfl, hb2⟩; have B2 : Below w.heap.size w w2 := hb1.trans (hb2.mono hb1.size))
    | (go_at_call 11; refine (shown6 _ (HV.out.below B2 HV.out.big)).mono ?_; rintro e w3 ⟨rfl, hb3⟩))
  go_ret
  exact ⟨rfl, B2.trans (hb3.mono B2.size)⟩
end Go.Proofs.YtkidfnhgknkpiaaGreatDoor
namespace Go.Proofs.YtkidfnhgknkpiaaGreatDoor
set_option linter.unusedVariables false
set_option linter.unusedSimpArgs false
open Go.ChangeShapes Go.WideShapes Go.ChangeAt Go.RowKit
attribute [local go_sem ↓] loadIn_seal storeIn_seal
attribute [local go_sem] loadIn_run storeIn_run rowAt_at rowAt_old rowAt_drew rowAt_drewN roomCpu_new roomIn_new roomAt_old roomAt_drew roomAt_drewN putCpu_new putIn_new Cp.zero_fold In.fold putRow_past rowCpu_put rowIn_put size_put putRow_drew putRow_drewN alloc_drewN setCell_drewN Cp.at16 Cp.at17 Cp.at18 Cp.at19 Cp.at20 Cp.at21 Cp.size Cp.set16 Cp.set17 Cp.set18 Cp.set19 Cp.set20 Cp.set21 In.at0 In.at1 In.at2 In.at3 In.at4 In.at5 In.at6 In.at7 In.size In.set0 In.set1 In.set2 In.set3 In.ne Cp.ne In.set4 In.set5 In.set6 In.set7

set_option maxHeartbeats 4000000 in
set_option maxRecDepth 20000 in
theorem back_walk (a : Option Addr) (L : List Int) (cap : Nat) (w : World) (V : Vars w) (hj : ∀ j (h : j < L.length), 0 ≤ L[j] ∧ L[j] ≤ 4294967295) (hA : WordsAt w a L) (hlen : L.length ≤ 9223372036854775807) :
    Calls Tryz.prog 6 #[.slice a L.length cap] w fun e w' => e = .returned (.bool true) ∧ Below w.heap.size w w' := by
  have HV : Hid (Vars w) := V
  have HA : Hid (WordsAt w a L) := hA
  have T1 : Hid (∀ X b c, Vars X → WordsAt X b L → Calls Tryz.prog 12 #[.slice b L.length c] X _) := fun X b c hX hB => text_any L b c X hX hj hB hlen
  cases hok : textOk L with
  | true =>
    obtain ⟨b1, b2, b3⟩ := text_back L (fun x hx => by obtain ⟨j, h, rfl⟩ := List.getElem_of_mem hx; exact hj j h) hok
    have P2 : Hid (∀ X, Vars X → Calls Tryz.prog 14 #[.string (bs (textT L))] X _) := fun X hX => parse_any (bs (textT L)) X hX
    rw [bs_data, b1, b2, b3] at P2
    have hE : textE L = 0 := by simp [textE, hok]
    rw [hE] at T1
    clear V hA hj b1 b2 b3 hok hE
    generalize textT L = s at T1 P2
    go_enter Tryz.func6, Tryz.ntmps6
    go_wp2_with (first
      | (go_at_call 11; refine (shown6 _ HV.out).mono ?_; rintro e w1 ⟨rfl, hb1⟩; have V1 : Hid (Vars w1) := HV.out.below hb1 HV.out.big; have A1 : Hid (WordsAt w1 a L) := words_below HA.out hb1)
      | (go_at_call 12; have hx := V3; clear hx; refine (T1.out _ _ _ V3.out A3.out.1).mono ?_; rintro e w4 ⟨rfl, hb4⟩; have A4 : Hid (WordsAt w4 a3 L ∧ WordsAt w4 a L) := ⟨words_below A3.out.1 hb4, words_below A3.out.2 hb4⟩)
      | (go_at_call 12; refine (T1.out _ _ _ V1.out A1.out).mono ?_; rintro e w2 ⟨rfl, hb2⟩; have V2 : Hid (Vars w2) := V1.out.below hb2 V1.out.big; have A2 : Hid (WordsAt w2 a L) := words_below A1.out hb2)
      | (go_at_call 14; refine (P2.out _ V2.out).mono ?_; rintro e w3 ⟨v3, rfl, o3, hb3⟩; obtain ⟨a3, c3, rfl, Z3⟩ := words_own o3; have A3 : Hid (WordsAt w3 a3 L ∧ WordsAt w3 a L) := ⟨Z3, words_below A2.out hb3⟩; have V3 : Hid (Vars w3) := V2.out.below hb3 V2.out.big; clear Z3 o3)
      | (go_at_call 16; refine (same_any _ _ _ _ L _ A4.out.1 A4.out.2 hlen).mono ?_; rintro e w5 ⟨rfl, hb5⟩))
    go_ret
    have B2 : Below w.heap.size w w2 := hb1.trans (hb2.mono hb1.size)
    have B3 : Below w.heap.size w w3 := B2.trans (hb3.mono B2.size)
    have B4 : Below w.heap.size w w4 := B3.trans (hb4.mono B3.size)
    exact ⟨rfl, B4.trans (hb5.mono B4.size)⟩
  | false =>
    have hE : textE L = 60 := by simp [textE, hok]
    have R1 : Hid (∀ X, WordsAt X a L → Calls Tryz.prog 13 #[.slice a L.length cap] X _) := fun X hX => rtext_any L a cap X hj hX hlen
    rw [hE] at T1 R1
    clear V hA hj hok hE
    generalize textT L = s at T1 R1
    go_enter Tryz.func6, Tryz.ntmps6
    go_wp2_with (first
      | (go_at_call 11; refine (shown6 _ HV.out).mono ?_; rintro e w1 ⟨rfl, hb1⟩; have V1 : Hid (Vars w1) := HV.out.below hb1 HV.out.big; have A1 : Hid (WordsAt w1 a L) := words_below HA.out hb1)
      | (go_at_call 12; refine (T1.out _ _ _ V1.out A1.out).mono ?_; rintro e w2 ⟨rfl, hb2⟩; have A2 : Hid (WordsAt w2 a L) := words_below A1.out hb2)
      | (go_at_call 13; refine (R1.out _ A2.out).mono ?_; rintro e w3 ⟨rfl, hb3⟩))
    go_ret
    have B2 : Below w.heap.size w w2 := hb1.trans (hb2.mono hb1.size)
    exact ⟨rfl, B2.trans (hb3.mono B2.size)⟩
end Go.Proofs.YtkidfnhgknkpiaaGreatDoor
