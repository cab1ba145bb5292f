/-
  The document's examples at the head of the laws of layer 6: shown returns true.
-/
import Derived.Test.YtmldlkcgaepaaaaGreatDoorMP1
import Derived.Test.YtmldlkcgaepaaaaGreatDoorMSh3
namespace Go.Proofs.YtmldlkcgaepaaaaGreatDoor
set_option linter.unusedVariables false
set_option linter.unusedSimpArgs false
open Go.ChangeShapes Go.WideShapes Go.ChangeAt Go.RowKit
attribute [local go_sem ↓] loadIn_seal storeIn_seal
attribute [local go_sem] loadIn_run storeIn_run rowAt_at rowAt_old rowAt_drew rowAt_drewN roomCpu_new roomIn_new roomAt_old roomAt_drew roomAt_drewN putCpu_new putIn_new Cp.zero_fold In.fold putRow_past rowCpu_put rowIn_put size_put putRow_drew putRow_drewN alloc_drewN setCell_drewN Cp.at16 Cp.at17 Cp.at18 Cp.at19 Cp.at20 Cp.at21 Cp.size Cp.set16 Cp.set17 Cp.set18 Cp.set19 Cp.set20 Cp.set21 In.at0 In.at1 In.at2 In.at3 In.at4 In.at5 In.at6 In.at7 In.size In.set0 In.set1 In.set2 In.set3 In.ne Cp.ne In.set4 In.set5 In.set6 In.set7

theorem dec1 (u : Nat) (h : u < 10) : Lib.decDigits u = [UInt8.ofNat (48 + u)] := by rw [Lib.decDigits, dif_pos h]
theorem dec2 (u : Nat) (h : ¬ u < 10) : Lib.decDigits u = Lib.decDigits (u / 10) ++ [UInt8.ofNat (48 + u % 10)] := by rw [Lib.decDigits, dif_neg h]
theorem it1 (u : Nat) (h : u < 10) : Lib.itoa (u : Int) = [UInt8.ofNat (48 + u)] := by rw [itoa_nat, dec1 u h]
theorem it2 (u : Nat) (h : 10 ≤ u) (h2 : u < 100) : Lib.itoa (u : Int) = [UInt8.ofNat (48 + u / 10), UInt8.ofNat (48 + u % 10)] := by rw [itoa_nat, dec2 u (by omega), dec1 _ (by omega)]; rfl
theorem it3 (u : Nat) (h : 100 ≤ u) (h2 : u < 1000) : Lib.itoa (u : Int) = [UInt8.ofNat (48 + u / 10 / 10), UInt8.ofNat (48 + u / 10 % 10), UInt8.ofNat (48 + u % 10)] := by rw [itoa_nat, dec2 u (by omega), dec2 _ (by omega), dec1 _ (by omega)]; rfl
def regD (n : Nat) : Bs := if n < 10 then [82, UInt8.ofNat (48 + n)] else [82, UInt8.ofNat (48 + n / 10), UInt8.ofNat (48 + n % 10)]
theorem regP_D (n : Nat) (h : n < 16) : regP n = regD n := by
  unfold regP regD
  split
  · rw [it1 n (by assumption)]; rfl
  · rw [it2 n (by omega) (by omega)]; rfl
def regT : Nat → List (Bs × Int)
  | 0 => []
  | n + 1 => (regD n, (n : Int)) :: regT n
theorem regL_T : ∀ n, n ≤ 16 → regL n = regT n
  | 0, _ => rfl
  | n + 1, h => by rw [regL, regT, regP_D n (by omega), regL_T n (by omega)]
theorem regOf_T (s : Bs) : regOf s = look (regT 16) s := by rw [regOf, regL_T 16 (by omega)]
/-- The example's text. -/
def exT : Bs := [77, 79, 86, 32, 82, 48, 32, 44, 53, 32, 59, 32, 120, 10, 10, 74, 77, 80, 32, 65, 76, 44, 48]
def s1 : Bs := [77, 79, 86, 32, 82, 48, 32, 44, 53]
def s3 : Bs := [74, 77, 80, 32, 65, 76, 44, 48]
theorem ex_parts : parts 10 exT = [[77, 79, 86, 32, 82, 48, 32, 44, 53, 32, 59, 32, 120], [], [74, 77, 80, 32, 65, 76, 44, 48]] := by decide
theorem ex_s1 : saidP [77, 79, 86, 32, 82, 48, 32, 44, 53, 32, 59, 32, 120] = s1 := by decide
theorem ex_s2 : saidP [] = [] := by decide
theorem ex_s3 : saidP [74, 77, 80, 32, 65, 76, 44, 48] = s3 := by decide
theorem num5 : numOf [53] = some 5 := by
  have e : Lib.atoiAll [53] = .ok 5 := by decide
  unfold numOf
  rw [e]
  have : Lib.itoa (5 : Int) = [53] := it1 5 (by omega)
  simp only
  rw [if_pos]
  exact this
theorem to0 : wordsTo [48] 4 = some (-2) := by
  have e : Lib.parseUintB 32 [48] = .ok 0 := by decide
  unfold wordsTo
  rw [e]
  have h : Lib.itoa ((0 : Nat) : Int) = [48] := it1 0 (by omega)
  simp only
  rw [if_pos h]
  decide
def iM : In := { F := 1, U := false, V := false, A := 0, B := 0, O := 0, C := 0, N := 0 }
def iJ : In := { F := 3, U := true, V := false, A := 0, B := 0, O := 0, C := 0, N := 0 }
theorem lkM : look (allN 64).n [77, 79, 86] = some iM := by kernel_rfl
theorem lkJ : look (allN 64).n [74, 77, 80] = some iJ := by kernel_rfl
theorem w1_eq : wordP s1 0 = some 1073741829 := by
  have e1 : cutB blanks.contains s1 = [77, 79, 86] := by decide
  have e2 : operandsP (cutR blanks.contains s1) = [[82, 48], [53]] := by decide
  have e3 : instrP [77, 79, 86] [53] = some iM := by
    have h : regOf [53] = none := by rw [regOf_T]; decide
    have h2 : instrP [77, 79, 86] [53] = look (allN 64).n [77, 79, 86] := by unfold instrP; rw [h]; rfl
    exact h2.trans lkM
  have e4 : filledP iM [[82, 48], [53]] 0 = some { iM with N := 5 } := by
    have h1 : withP iM 65 [82, 48] 0 = some iM := by
      have : regOf [82, 48] = some 0 := by rw [regOf_T]; decide
      show (regOf [82, 48]).map (fun n => { iM with A := n }) = _
      rw [this]; rfl
    have h2 : withP iM 110 [53] 0 = some { iM with N := 5 } := by
      show (numOf [53]).map (fun n => { iM with N := n }) = _
      rw [num5]; rfl
    show (withP iM 65 [82, 48] 0).bind (fun i' => (withP i' 110 [53] 0).bind fun i'' => some i'') = _
    rw [h1]
    show (withP iM 110 [53] 0).bind (fun i'' => some i'') = _
    rw [h2]; rfl
  unfold wordP
  simp only [e1, e2]
  rw [if_neg (by decide)]
  show (instrP [77, 79, 86] [53]).bind _ = _
  rw [e3]
  show (filledP iM [[82, 48], [53]] 0).bind _ = _
  rw [e4]
  kernel_rfl
theorem w3_eq : wordP s3 4 = some 3892314110 := by
  have e1 : cutB blanks.contains s3 = [74, 77, 80] := by decide
  have e2 : operandsP (cutR blanks.contains s3) = [[65, 76], [48]] := by decide
  have e3 : instrP [74, 77, 80] [48] = some iJ := by
    have h : regOf [48] = none := by rw [regOf_T]; decide
    have h2 : instrP [74, 77, 80] [48] = look (allN 64).n [74, 77, 80] := by unfold instrP; rw [h]; rfl
    exact h2.trans lkJ
  have e4 : filledP iJ [[65, 76], [48]] 4 = some { iJ with A := 7, N := -2 } := by
    have h1 : withP iJ 63 [65, 76] 4 = some { iJ with A := 7 } := by
      have : condOf [65, 76] = some 7 := by decide
      show (condOf [65, 76]).map (fun n => { iJ with A := n }) = _
      rw [this]; rfl
    have h2 : withP { iJ with A := 7 } 64 [48] 4 = some { iJ with A := 7, N := -2 } := by
      show (wordsTo [48] 4).map (fun n => { iJ with A := 7, N := n }) = _
      rw [to0]; rfl
    show (withP iJ 63 [65, 76] 4).bind (fun i' => (withP i' 64 [48] 4).bind fun i'' => some i'') = _
    rw [h1]
    show (withP { iJ with A := 7 } 64 [48] 4).bind (fun i'' => some i'') = _
    rw [h2]; rfl
  unfold wordP
  simp only [e1, e2]
  rw [if_neg (by decide)]
  show (instrP [74, 77, 80] [48]).bind _ = _
  rw [e3]
  show (filledP iJ [[65, 76], [48]] 4).bind _ = _
  rw [e4]
  kernel_rfl
theorem ex_go : goP (parts 10 exT) 0 [] = .words [1073741829, 3892314110] := by
  rw [ex_parts, goP, ex_s1, if_neg (by decide)]
  show (match wordP s1 0 with
    | none => Pe.line 1
    | some x => goP _ 1 ([] ++ [x])) = _
  rw [w1_eq]
  show goP _ 1 [1073741829] = _
  rw [goP, ex_s2, if_pos rfl, goP, ex_s3, if_neg (by decide)]
  show (match wordP s3 4 with
    | none => Pe.line 3
    | some x => goP [] 3 ([1073741829] ++ [x])) = _
  rw [w3_eq]; rfl
theorem ex_W : parseW exT = [1073741829, 3892314110] ∧ parseN exT = 0 ∧ parseE exT = 0 := by
  unfold parseW parseN parseE
  rw [if_neg (by decide), if_neg (by decide), if_neg (by decide), ex_go]
  exact ⟨rfl, rfl, rfl⟩
theorem sh1_eq : showP 19398659 0 = [65, 68, 68, 32, 82, 49, 44, 32, 82, 50, 44, 32, 82, 51] := by
  have d0 : decOk 19398659 = true := by kernel_rfl
  have d1 : decI 19398659 = { F := 0, U := false, V := false, A := 1, B := 2, O := 8, C := 3, N := 0 } := by kernel_rfl
  unfold showP
  rw [d0, d1, if_pos rfl]
  show nameP _ ++ [32] ++ Lib.join [regP ((1 : Nat) : Int), regP ((2 : Nat) : Int), regP ((3 : Nat) : Int)] [44, 32] = _
  rw [regP_D 1 (by omega), regP_D 2 (by omega), regP_D 3 (by omega)]
  decide
theorem sh2_eq : showP 3892314111 100 = [74, 77, 80, 32, 65, 76, 44, 32, 49, 48, 48] := by
  have d0 : decOk 3892314111 = true := by kernel_rfl
  have d1 : decI 3892314111 = { F := 3, U := true, V := false, A := 7, B := 0, O := 0, C := 0, N := -1 } := by kernel_rfl
  unfold showP
  rw [d0, d1, if_pos rfl]
  show nameP _ ++ [32] ++ Lib.join [condName 7, Lib.itoa (toP 100 (-1))] [44, 32] = _
  have : Lib.itoa (toP 100 (-1)) = [49, 48, 48] := it3 100 (by omega) (by omega)
  rw [this]
  decide
set_option maxRecDepth 20000 in
set_option maxHeartbeats 1000000 in
theorem shown6 (w : World) (V : Vars w) : Calls Tryz.prog 7 #[] w fun e w' => e = .returned (.bool true) ∧ Below w.heap.size w w' := by
  have PA := parse_any { data := #[77, 79, 86, 32, 82, 48, 32, 44, 53, 32, 59, 32, 120, 10, 10, 74, 77, 80, 32, 65, 76, 44, 48] } w V
  obtain ⟨x1, x2, x3⟩ := ex_W
  have x1 : parseW ({ data := #[77, 79, 86, 32, 82, 48, 32, 44, 53, 32, 59, 32, 120, 10, 10, 74, 77, 80, 32, 65, 76, 44, 48] } : ByteArray).data.toList = _ := x1
  have x2 : parseN ({ data := #[77, 79, 86, 32, 82, 48, 32, 44, 53, 32, 59, 32, 120, 10, 10, 74, 77, 80, 32, 65, 76, 44, 48] } : ByteArray).data.toList = _ := x2
  have x3 : parseE ({ data := #[77, 79, 86, 32, 82, 48, 32, 44, 53, 32, 59, 32, 120, 10, 10, 74, 77, 80, 32, 65, 76, 44, 48] } : ByteArray).data.toList = _ := x3
  rw [x1, x2, x3] at PA
  have S1 := fun X V => show_any 19398659 0 X V (by omega) (by omega)
  have S2 := fun X V => show_any 3892314111 100 X V (by omega) (by omega)
  rw [sh1_eq] at S1
  rw [sh2_eq] at S2
  have z1 : (bs [65, 68, 68, 32, 82, 49, 44, 32, 82, 50, 44, 32, 82, 51]).toList = [65, 68, 68, 32, 82, 49, 44, 32, 82, 50, 44, 32, 82, 51] := by rw [Lib.toList_data, bs_data]
  have z2 : (bs [74, 77, 80, 32, 65, 76, 44, 32, 49, 48, 48]).toList = [74, 77, 80, 32, 65, 76, 44, 32, 49, 48, 48] := by rw [Lib.toList_data, bs_data]
  have HV : Hid (Vars w) := V
  have H1 : Hid _ := S1
  have H2 : Hid _ := S2
  clear x1 x2 x3 V S1 S2
  go_enter Tryz.func7, Tryz.ntmps7
  go_wp2_with (first | (go_at_call 4; refine PA.mono ?_; rintro e w1 ⟨v, rfl, hown, hb1⟩; obtain ⟨g, cap, rfl, hg1, hg2, hcap, hcell, _⟩ := own_row hown (by decide); have k0 : w1.cell? ⟨g, 0, none⟩ = some (.int .u32 1073741829) := hcell 0 (by decide); have k1 : w1.cell? ⟨g, 1, none⟩ = some (.int .u32 3892314110) := hcell 1 (by decide); clear hcell hown; have hcap2 : 2 ≤ cap := hcap; rw [show [(1073741829 : Int), 3892314110].length = 2 from rfl]) | (go_at_call 15; have hx := hb2; clear hx; refine (H2.out _ ((HV.out.call hb1).call hb2)).mono ?_; rintro e w3 ⟨rfl, hb3⟩; have k4 := (hb3.cell (p := ⟨g, 0, none⟩) (Nat.lt_of_lt_of_le hg2 hb2.size)).trans k2; have k5 := (hb3.cell (p := ⟨g, 1, none⟩) (Nat.lt_of_lt_of_le hg2 hb2.size)).trans k3) | (go_at_call 15; refine (H1.out _ (HV.out.call hb1)).mono ?_; rintro e w2 ⟨rfl, hb2⟩; have k2 := (hb2.cell (p := ⟨g, 0, none⟩) hg2).trans k0; have k3 := (hb2.cell (p := ⟨g, 1, none⟩) hg2).trans k1))
  go_ret
  exact ⟨rfl, (hb1.trans (hb2.mono hb1.size)).trans (hb3.mono (by have := hb1.size; have := hb2.size; omega))⟩
end Go.Proofs.YtmldlkcgaepaaaaGreatDoor
