/-
  Layer 6's Text, the program's: the plain text of every row of words.
-/
import Derived.Test.YtkidfnhgknkpiaaGreatDoorP1
import Derived.Lib.AppendStr
import Derived.Laws.IdiomStrings
namespace Go.Proofs.YtkidfnhgknkpiaaGreatDoor
set_option linter.unusedVariables false
set_option linter.unusedSimpArgs false
open Go.ChangeShapes Go.WideShapes Go.ChangeAt Go.RowKit
attribute [local go_sem ↓] loadIn_seal storeIn_seal
attribute [local go_sem] loadIn_run storeIn_run rowAt_at rowAt_old rowAt_drew rowAt_drewN roomCpu_new roomIn_new roomAt_old roomAt_drew roomAt_drewN putCpu_new putIn_new Cp.zero_fold In.fold putRow_past rowCpu_put rowIn_put size_put putRow_drew putRow_drewN alloc_drewN setCell_drewN Cp.at16 Cp.at17 Cp.at18 Cp.at19 Cp.at20 Cp.at21 Cp.size Cp.set16 Cp.set17 Cp.set18 Cp.set19 Cp.set20 Cp.set21 In.at0 In.at1 In.at2 In.at3 In.at4 In.at5 In.at6 In.at7 In.size In.set0 In.set1 In.set2 In.set3 In.ne Cp.ne In.set4 In.set5 In.set6 In.set7

/-- The lines of words, the first at the address 4 * k. -/
def linesP : List Int → Nat → Bs
  | [], _ => []
  | x :: r, k => showP x (4 * k) ++ [10] ++ linesP r (k + 1)
theorem lines_app : ∀ (a b : List Int) (k : Nat), linesP (a ++ b) k = linesP a k ++ linesP b (k + a.length)
  | [], b, k => by simp [linesP]
  | x :: a, b, k => by simp [linesP, lines_app a b (k + 1), Nat.add_assoc, Nat.add_comm 1]
def textTo (L : List Int) (k : Nat) : Bs := linesP (L.take k) 0
theorem textTo_succ (L : List Int) (k : Nat) (h : k < L.length) : textTo L (k + 1) = textTo L k ++ showP L[k] (4 * k) ++ [10] := by
  rw [textTo, List.take_add_one, List.getElem?_eq_getElem h, lines_app]
  simp [textTo, linesP, Nat.min_eq_left (Nat.le_of_lt h)]
theorem textTo_all (L : List Int) : textTo L L.length = linesP L 0 := by simp [textTo]
theorem textTo_le (L : List Int) (k : Nat) : (textTo L k).length ≤ (linesP L 0).length := by
  have := lines_app (L.take k) (L.drop k) 0
  rw [List.take_append_drop] at this
  rw [this, textTo, List.length_append]; omega
def textOk (L : List Int) : Bool := decide (L.length ≤ 16384) && decide ((linesP L 0).length ≤ 65536)
def textT (L : List Int) : Bs := if textOk L then linesP L 0 else []
def textE (L : List Int) : Int := if textOk L then 0 else 60
/-- A row of words that lies behind a slice. -/
def WordsAt (w : World) (a : Option Addr) (L : List Int) : Prop := ∀ j (h : j < L.length), ∃ b off, a = some ⟨b, off, none⟩ ∧ b < w.heap.size ∧ w.cell? ⟨b, off + j, none⟩ = some (.int .u32 L[j])
theorem bcells_app (a b : Bs) : Lib.strCells (bs a) ++ Lib.strCells (bs b) = Lib.strCells (bs (a ++ b)) := by simp [Lib.strCells, bs]
theorem infoU8 : (Tryz.prog.info? 5).map (fun i => (i.zero, i.size, i.bytes)) = some (some (.int .u8 0), 1, 1) := by kernel_rfl
theorem show_len (x a : Int) (x0 : 0 ≤ x) (x1 : x ≤ 4294967295) : (showP x a).length ≤ 79 := by
  unfold showP
  split
  · rename_i h
    have hr : rightB (decI x) = true := by simp only [decOk, Bool.and_eq_true] at h; simp [decI, decOk, h]
    have hW := wr_of hr
    have h1 := name_size (decI x)
    rw [bs_size] at h1
    have h2 := kinds_bd (decI x)
    have hjl := join_len [44, 32] 22 ((kindsP (decI x)).map (operandP (decI x) a)) (fun z hz => by obtain ⟨c, _, rfl⟩ := List.mem_map.1 hz; exact operand_len _ hW a c)
    simp only [List.length_map, List.length_cons, List.length_nil, List.length_append] at hjl ⊢
    omega
  · have hz : (hexS x 8).size = 8 := (strOfNums_size _).trans (hl_len x 8)
    have : (hexS x 8).data.toList.length = 8 := by rw [Array.length_toList]; exact hz
    simp [wordT, this]
theorem own_slice {w : World} {B e n : Nat} {v : Value} {xs : List Value} (h : w.ownsRow B e 1 v n xs) : ∃ a c, v = .slice a n c := by
  rcases h.2 with ⟨rfl, h0⟩ | ⟨g, cap, cur, rfl, _⟩
  · exact ⟨none, 0, by rw [h0]⟩
  · exact ⟨_, _, rfl⟩
theorem conv_own {w : World} {B : Nat} {a : Option Addr} {c : Nat} {t : Bs} (h : w.ownsRow B 5 1 (.slice a t.length c) t.length (Lib.strCells (bs t))) (w' : World) (hk : ∀ p : Addr, p.block < w.heap.size → w'.cell? p = w.cell? p) :
    (convert 38 9 (.slice a t.length c)).run Tryz.prog w' = .ok (.string (bs t)) w' := by
  by_cases h0 : 0 < t.length
  · obtain ⟨g, cap, e, hg1, hg2, hcap, hcell, _⟩ := own_row h h0
    cases e
    refine run_convert_bytes_back (P := Tryz.prog) w' 38 9 5 ⟨g, 0, none⟩ c t Tryz.underlying38 Tryz.underlying5 Tryz.underlying9 fun j hj => ?_
    rw [Lib.add_plain, hk _ hg2, Nat.zero_add, hcell j hj]
    simp [Lib.strCells, bs, hj]
  · obtain rfl : t = [] := by cases t with
      | nil => rfl
      | cons a b => simp at h0
    show (convert 38 9 (.slice a 0 c)).run Tryz.prog w' = _
    rw [run_convert_bytes_string w' 38 9 5 a 0 c Tryz.underlying38 Tryz.underlying5 Tryz.underlying9]
    cases a <;> simp [Conv.bytesToString, loadCells]
    all_goals rfl
set_option maxHeartbeats 2000000 in
set_option maxRecDepth 20000 in
theorem text_any (L : List Int) (a : Option Addr) (c : Nat) (w : World) (V : Vars w) (hL : ∀ j (h : j < L.length), 0 ≤ L[j] ∧ L[j] ≤ 4294967295) (hA : WordsAt w a L) (hm : L.length ≤ 9223372036854775807) :
    Calls Tryz.prog 12 #[.slice a L.length c] w fun e w' => e = .returned (.tuple #[.string (bs (textT L)), .int .i64 (textE L)]) ∧ Below w.heap.size w w' := by
  by_cases h : 16384 < L.length
  · have hk : textOk L = false := by simp [textOk]; omega
    have hd : decide (16384 < (L.length : Int)) = true := by simp; omega
    have e1 : textT L = [] := by simp [textT, hk]
    have e2 : textE L = 60 := by simp [textE, hk]
    rw [e1, e2]
    clear hA hL V
    go_enter Tryz.func12, Tryz.ntmps12
    go_wp2
    go_ret2
    exact ⟨rfl, Below.refl _ _⟩
  · have hd : decide (16384 < (L.length : Int)) = false := by simp; omega
    have HV : Hid (Vars w) := V
    have HA : Hid (WordsAt w a L) := hA
    have HL : Hid (∀ j (h : j < L.length), 0 ≤ L[j] ∧ L[j] ≤ 4294967295) := hL
    obtain ⟨i0, hi0, hz0, hz1, hz2⟩ := info_parts infoU8
    clear V hA hL
    go_enter Tryz.func12, Tryz.ntmps12
    go_wp2
    go_loopg [4, 12] L.length (fun gf s4 s12 wx => ∃ k : Nat, k ≤ L.length ∧ L.length ≤ k + gf ∧ s12 = .int .i64 k ∧ wx.ownsRow w.heap.size 5 1 s4 (textTo L k).length (Lib.strCells (bs (textTo L k))) ∧ Below w.heap.size w wx ∧ (textTo L k).length ≤ 65536)
    case atStart => exact ⟨0, by omega, by omega, rfl, ⟨rfl, .inl ⟨rfl, rfl⟩⟩, Below.refl _ _, by simp [textTo, linesP]⟩
    case round =>
      obtain ⟨k, hk, hgk, rfl, hown, hbw, hlen⟩ := hrel
      have hbs := hbw.size
      by_cases hk2 : k < L.length
      · obtain ⟨g', rfl⟩ : ∃ g', gk = g' + 1 := ⟨gk - 1, by omega⟩
        obtain ⟨b, off, rfl, hb, hc⟩ := HA.out k hk2
        have hcr : wr.cell? ⟨b, off + k, none⟩ = some (.int .u32 L[k]) := (hbw.cell (p := ⟨b, _, none⟩) hb).trans hc
        obtain ⟨x0, x1⟩ := HL.out k hk2
        have hsu := textTo_succ L k hk2
        have hle := textTo_le L (k + 1)
        have hsl := show_len L[k] (4 * k) x0 x1
        generalize L[k] = x at hcr x0 x1 hsu hsl
        have hkd : decide ((k : Int) < L.length) = true := by simp; omega
        have hwl2 : 4 * (k : Int) % 4294967296 = 4 * k := by omega
        have AD := addr_any (k : Int)
        rw [hwl2] at AD
        have HO : Hid (wr.ownsRow w.heap.size 5 1 u4 (textTo L k).length (Lib.strCells (bs (textTo L k)))) := hown
        have SH : Hid (Calls Tryz.prog 9 #[.int .u32 x, .int .u32 (4 * (k : Int))] wr _) := show_any x (4 * k) wr (HV.out.below hbw HV.out.big) x0 x1
        have hz : (bs (showP x (4 * k))).size = (showP x (4 * k)).length := bs_size _
        clear hown hc
        have e3 : (textTo L k).length + (bs (showP x (4 * k))).size + (⟨#[10]⟩ : ByteArray).size = (textTo L (k + 1)).length := by rw [hsu, hz]; simp [ByteArray.size]; omega
        have e4 : Lib.strCells (bs (textTo L k)) ++ Lib.strCells (bs (showP x (4 * k))) ++ Lib.strCells ⟨#[10]⟩ = Lib.strCells (bs (textTo L (k + 1))) := by rw [hsu, bcells_app]; exact bcells_app _ [10]
        have E4 : Hid (_ = Lib.strCells (bs (textTo L (k + 1)))) := e4
        have z10 : (⟨#[10]⟩ : ByteArray).size = 1 := rfl
        clear hsu e4
        by_cases hbig : 65536 < (textTo L (k + 1)).length
        · have hdl : decide ((65536 : Int) < ((textTo L (k + 1)).length : Int)) = true := by simp; omega
          have hno : textOk L = false := by simp [textOk]; omega
          have hT0 : textT L = [] := by simp [textT, hno]
          have HT : Hid (textT L = []) := hT0
          have hE0 : textE L = 60 := by simp [textE, hno]
          have HE : Hid (textE L = 60) := hE0
          clear hT0 hE0 hno hle
          go_wp2_with (first | (go_at_call 32; refine (AD _).mono ?_; rintro e w' ⟨rfl, hw'⟩; rw [hw']; clear hw') | (go_at_call 9; refine SH.out.mono ?_; rintro e w1 ⟨rfl, hb1⟩; (rename_i K hK; refine hK _ _ ?_); (refine Lib.wpList_append_own_string _ rfl _ _ 38 9 rfl w.heap.size 5 i0 Tryz.underlying38 Tryz.underlying9 hi0 hz0 hz1 hz2 _ _ _ rfl (own_call HO.out hb1) (bs (showP x (4 * k))) rfl (by rw [hz]; unfold maxLen; omega) (by rw [hz]; omega) (by have := hb1.size; omega) ?_); intro v2 w2 hown2 hgrow2 hn2) | (at_builtin; have hx := hown2; clear hx; (refine Lib.wpList_append_own_string _ rfl _ _ 38 9 rfl w.heap.size 5 i0 Tryz.underlying38 Tryz.underlying9 hi0 hz0 hz1 hz2 _ _ _ rfl hown2 ⟨#[10]⟩ rfl (by rw [e3]; unfold maxLen; omega) (by rw [e3]; omega) (by have := hgrow2.size; have := hb1.size; omega) ?_); intro v3 w3 hown3 hgrow3 hn3; rw [e3, E4.out] at hown3; obtain ⟨sa, sc, rfl⟩ := own_slice hown3))
          have B1 : Below w.heap.size w w1 := hbw.trans (hb1.mono hbw.size)
          have B2 : Below w.heap.size w w2 := B1.grown hgrow2 B1.size (fun g hg => (HO.out.lt g hg).1)
          have B3 : Below w.heap.size w w3 := B2.grown hgrow3 B2.size (fun g hg => (hown2.lt g hg).1)
          go_ret2
          exact ⟨by rw [HT.out, HE.out]; rfl, B3⟩
        · have hdl : decide ((65536 : Int) < ((textTo L (k + 1)).length : Int)) = false := by simp; omega
          go_wp2_with (first | (go_at_call 32; refine (AD _).mono ?_; rintro e w' ⟨rfl, hw'⟩; rw [hw']; clear hw') | (go_at_call 9; refine SH.out.mono ?_; rintro e w1 ⟨rfl, hb1⟩; (rename_i K hK; refine hK _ _ ?_); (refine Lib.wpList_append_own_string _ rfl _ _ 38 9 rfl w.heap.size 5 i0 Tryz.underlying38 Tryz.underlying9 hi0 hz0 hz1 hz2 _ _ _ rfl (own_call HO.out hb1) (bs (showP x (4 * k))) rfl (by rw [hz]; unfold maxLen; omega) (by rw [hz]; omega) (by have := hb1.size; omega) ?_); intro v2 w2 hown2 hgrow2 hn2) | (at_builtin; have hx := hown2; clear hx; (refine Lib.wpList_append_own_string _ rfl _ _ 38 9 rfl w.heap.size 5 i0 Tryz.underlying38 Tryz.underlying9 hi0 hz0 hz1 hz2 _ _ _ rfl hown2 ⟨#[10]⟩ rfl (by rw [e3]; unfold maxLen; omega) (by rw [e3]; omega) (by have := hgrow2.size; have := hb1.size; omega) ?_); intro v3 w3 hown3 hgrow3 hn3; rw [e3, E4.out] at hown3; obtain ⟨sa, sc, rfl⟩ := own_slice hown3))
          have B1 : Below w.heap.size w w1 := hbw.trans (hb1.mono hbw.size)
          have B2 : Below w.heap.size w w2 := B1.grown hgrow2 B1.size (fun g hg => (HO.out.lt g hg).1)
          have B3 : Below w.heap.size w w3 := B2.grown hgrow3 B2.size (fun g hg => (hown2.lt g hg).1)
          go_roundg g'
          case measure => omega
          case rel => exact ⟨k + 1, by omega, by omega, by go_num, hown3, B3, by omega⟩
      · obtain rfl : k = L.length := by omega
        have hkd : decide ((L.length : Int) < L.length) = false := by simp
        have hok : textOk L = true := by rw [textTo_all] at hlen; simp [textOk]; omega
        have hT0 : textT L = textTo L L.length := by rw [textTo_all]; simp [textT, hok]
        have HT : Hid (textT L = textTo L L.length) := hT0
        have HE : Hid (textE L = 0) := by show textE L = 0; simp [textE, hok]
        obtain ⟨sa, sc, rfl⟩ := own_slice hown
        have hcv := conv_own hown wr (fun _ _ => rfl)
        clear hown hT0 hok
        generalize textTo L L.length = t at HT hcv
        go_wp2
        go_ret2
        exact ⟨by rw [HT.out, HE.out]; rfl, hbw⟩
end Go.Proofs.YtkidfnhgknkpiaaGreatDoor
