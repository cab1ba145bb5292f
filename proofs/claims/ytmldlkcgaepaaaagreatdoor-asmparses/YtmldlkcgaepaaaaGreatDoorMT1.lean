/-
  Layer 6's Text, the program's: the plain text of every row of words.
-/
import Derived.Test.YtmldlkcgaepaaaaGreatDoorMP1
import Derived.Lib.AppendStr
import Derived.Laws.IdiomStrings
namespace Go.Proofs.YtmldlkcgaepaaaaGreatDoor
set_option linter.unusedVariables false
set_option linter.unusedSimpArgs false
open Go.ChangeShapes Go.WideShapes Go.ChangeAt Go.RowKit
attribute [local go_sem ↓] loadIn_seal storeIn_seal
attribute [local go_sem] loadIn_run storeIn_run rowAt_at rowAt_old rowAt_drew rowAt_drewN roomCpu_new roomIn_new roomAt_old roomAt_drew roomAt_drewN putCpu_new putIn_new Cp.zero_fold In.fold putRow_past rowCpu_put rowIn_put size_put putRow_drew putRow_drewN alloc_drewN setCell_drewN Cp.at16 Cp.at17 Cp.at18 Cp.at19 Cp.at20 Cp.at21 Cp.size Cp.set16 Cp.set17 Cp.set18 Cp.set19 Cp.set20 Cp.set21 In.at0 In.at1 In.at2 In.at3 In.at4 In.at5 In.at6 In.at7 In.size In.set0 In.set1 In.set2 In.set3 In.ne Cp.ne In.set4 In.set5 In.set6 In.set7

/-- The lines of words, the first at the address 4 * k. -/
def linesP : List Int → Nat → Bs
  | [], _ => []
  | x :: r, k => showP x (4 * k) ++ [10] ++ linesP r (k + 1)
theorem lines_app : ∀ (a b : List Int) (k : Nat), linesP (a ++ b) k = linesP a k ++ linesP b (k + a.length)
  | [], b, k => by simp [linesP]
  | x :: a, b, k => by simp [linesP, lines_app a b (k + 1), Nat.add_assoc, Nat.add_comm 1]
def textTo (L : List Int) (k : Nat) : Bs := linesP (L.take k) 0
theorem textTo_succ (L : List Int) (k : Nat) (h : k < L.length) : textTo L (k + 1) = textTo L k ++ showP L[k] (4 * k) ++ [10] := by
  rw [textTo, List.take_add_one, List.getElem?_eq_getElem h, lines_app]
  simp [textTo, linesP, Nat.min_eq_left (Nat.le_of_lt h)]
theorem textTo_all (L : List Int) : textTo L L.length = linesP L 0 := by simp [textTo]
theorem textTo_le (L : List Int) (k : Nat) : (textTo L k).length ≤ (linesP L 0).length := by
  have := lines_app (L.take k) (L.drop k) 0
  rw [List.take_append_drop] at this
  rw [this, textTo, List.length_append]; omega
def textOk (L : List Int) : Bool := decide (L.length ≤ 16384) && decide ((linesP L 0).length ≤ 65536)
def textT (L : List Int) : Bs := if textOk L then linesP L 0 else []
def textE (L : List Int) : Int := if textOk L then 0 else 60
/-- A row of words that lies behind a slice. -/
def WordsAt (w : World) (a : Option Addr) (L : List Int) : Prop := ∀ j (h : j < L.length), ∃ b off, a = some ⟨b, off, none⟩ ∧ b < w.heap.size ∧ w.cell? ⟨b, off + j, none⟩ = some (.int .u32 L[j])
theorem bcells_app (a b : Bs) : Lib.strCells (bs a) ++ Lib.strCells (bs b) = Lib.strCells (bs (a ++ b)) := by simp [Lib.strCells, bs]
theorem infoU8 : (Tryz.prog.info? 5).map (fun i => (i.zero, i.size, i.bytes)) = some (some (.int .u8 0), 1, 1) := by kernel_rfl
theorem show_len (x a : Int) (x0 : 0 ≤ x) (x1 : x ≤ 4294967295) : (showP x a).length ≤ 79 := by
  unfold showP
  split
  · rename_i h
    have hr : rightB (decI x) = true := by simp only [decOk, Bool.and_eq_true] at h; simp [decI, decOk, h]
    have hW := wr_of hr
    have h1 := name_size (decI x)
    rw [bs_size] at h1
    have h2 := kinds_bd (decI x)
    have hjl := join_len [44, 32] 22 ((kindsP (decI x)).map (operandP (decI x) a)) (fun z hz => by obtain ⟨c, _, rfl⟩ := List.mem_map.1 hz; exact operand_len _ hW a c)
    simp only [List.length_map, List.length_cons, List.length_nil, List.length_append] at hjl ⊢
    omega
  · have hz : (hexS x 8).size = 8 := (strOfNums_size _).trans (hl_len x 8)
    have : (hexS x 8).data.toList.length = 8 := by rw [Array.length_toList]; exact hz
    simp [wordT, this]
theorem own_slice {w : World} {B e n : Nat} {v : Value} {xs : List Value} (h : w.ownsRow B e 1 v n xs) : ∃ a c, v = .slice a n c := by
  rcases h.2 with ⟨rfl, h0⟩ | ⟨g, cap, cur, rfl, _⟩
  · exact ⟨none, 0, by rw [h0]⟩
  · exact ⟨_, _, rfl⟩
theorem conv_own {w : World} {B : Nat} {a : Option Addr} {c : Nat} {t : Bs} (h : w.ownsRow B 5 1 (.slice a t.length c) t.length (Lib.strCells (bs t))) (w' : World) (hk : ∀ p : Addr, p.block < w.heap.size → w'.cell? p = w.cell? p) :
    (convert 89 9 (.slice a t.length c)).run Tryz.prog w' = .ok (.string (bs t)) w' := by
  by_cases h0 : 0 < t.length
  · obtain ⟨g, cap, e, hg1, hg2, hcap, hcell, _⟩ := own_row h h0
    cases e
    refine run_convert_bytes_back (P := Tryz.prog) w' 89 9 5 ⟨g, 0, none⟩ c t Tryz.underlying89 Tryz.underlying5 Tryz.underlying9 fun j hj => ?_
    rw [Lib.add_plain, hk _ hg2, Nat.zero_add, hcell j hj]
    simp [Lib.strCells, bs, hj]
  · obtain rfl : t = [] := by cases t with
      | nil => rfl
      | cons a b => simp at h0
    show (convert 89 9 (.slice a 0 c)).run Tryz.prog w' = _
    rw [run_convert_bytes_string w' 89 9 5 a 0 c Tryz.underlying89 Tryz.underlying5 Tryz.underlying9]
    cases a <;> simp [Conv.bytesToString, loadCells]
    all_goals rfl
end Go.Proofs.YtmldlkcgaepaaaaGreatDoor
