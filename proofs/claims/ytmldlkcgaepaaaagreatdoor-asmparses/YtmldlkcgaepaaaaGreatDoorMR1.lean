/-
  The document's layer 6: digits, reg, marks, last, Names and Conditions: the plain texts.
-/
import Derived.Test.YtmldlkcgaepaaaaGreatDoorMSh3
import Derived.Test.YtmldlkcgaepaaaaGreatDoorMK3
namespace Go.Proofs.YtmldlkcgaepaaaaGreatDoor
set_option linter.unusedVariables false
set_option linter.unusedSimpArgs false
open Go.ChangeShapes Go.WideShapes Go.ChangeAt Go.RowKit
attribute [local go_sem ↓] loadIn_seal storeIn_seal
attribute [local go_sem] loadIn_run storeIn_run rowAt_at rowAt_old rowAt_drew rowAt_drewN roomCpu_new roomIn_new roomAt_old roomAt_drew roomAt_drewN putCpu_new putIn_new Cp.zero_fold In.fold putRow_past rowCpu_put rowIn_put size_put putRow_drew putRow_drewN alloc_drewN setCell_drewN Cp.at16 Cp.at17 Cp.at18 Cp.at19 Cp.at20 Cp.at21 Cp.size Cp.set16 Cp.set17 Cp.set18 Cp.set19 Cp.set20 Cp.set21 In.at0 In.at1 In.at2 In.at3 In.at4 In.at5 In.at6 In.at7 In.size In.set0 In.set1 In.set2 In.set3 In.ne Cp.ne In.set4 In.set5 In.set6 In.set7

theorem dg_one (r : Nat) (h : r < 10) : ({ data := #[48, 49, 50, 51, 52, 53, 54, 55, 56, 57] } : ByteArray).extract r (r + 1) = bs [UInt8.ofNat (48 + r)] := by
  rcases (show r = 0 ∨ r = 1 ∨ r = 2 ∨ r = 3 ∨ r = 4 ∨ r = 5 ∨ r = 6 ∨ r = 7 ∨ r = 8 ∨ r = 9 by omega) with rfl | rfl | rfl | rfl | rfl | rfl | rfl | rfl | rfl | rfl <;> decide
theorem dec_small (u : Nat) (h : u < 10) : Lib.decDigits u = [UInt8.ofNat (48 + u)] := by rw [Lib.decDigits, dif_pos h]
theorem dec_big (u : Nat) (h : ¬ u < 10) : Lib.decDigits u = Lib.decDigits (u / 10) ++ [UInt8.ofNat (48 + u % 10)] := by rw [Lib.decDigits, dif_neg h]
def tailOk (n m : Nat) (d : Bs) : Prop := Lib.decDigits n = if m = 0 then d else Lib.decDigits m ++ d
theorem tail_step {n m : Nat} {d : Bs} (h : (d = [] ∧ m = n) ∨ (0 < m ∧ tailOk n m d)) : tailOk n (m / 10) (UInt8.ofNat (48 + m % 10) :: d) := by
  have key : Lib.decDigits m ++ d = if m / 10 = 0 then UInt8.ofNat (48 + m % 10) :: d else Lib.decDigits (m / 10) ++ (UInt8.ofNat (48 + m % 10) :: d) := by
    by_cases hm : m < 10
    · rw [dec_small m hm, if_pos (by omega), Nat.mod_eq_of_lt hm]; rfl
    · rw [dec_big m hm, if_neg (by omega)]; simp
  rcases h with ⟨rfl, rfl⟩ | ⟨hm, h⟩
  · rw [List.append_nil] at key; exact key
  · unfold tailOk at h ⊢; rw [h, if_neg (by omega)]; exact key
def marksP (i : In) : Bs := letP i.U 85 ++ letP i.V 86
theorem rmarks_any (i : In) (w : World) : Calls Tryz.prog 56 #[.agg i.cells] w fun e w' => e = .returned (.string (bs (marksP i))) ∧ Below w.heap.size w w' := by
  cases hU : i.U <;> cases hV : i.V
  all_goals
    have e1 : marksP i = letP i.U 85 ++ letP i.V 86 := rfl
    rw [e1, hU, hV]
    go_enter Tryz.func56, Tryz.ntmps56
    go_wp2
    go_ret
    exact ⟨ret_str (by decide), (Below.refl _ _).alloc (Nat.le_refl _) _⟩
def lastOp (i : In) : Bs := if i.F = 0 then regP i.C else Lib.itoa i.N
theorem rnames_any (w : World) : Calls Tryz.prog 55 #[] w fun e w' => ∃ g, e = .returned (.slice (some ⟨g, 0, none⟩) 16 16) ∧ w.heap.size ≤ g ∧ g < w'.heap.size ∧ (∀ o : Nat, o < 16 → w'.cell? ⟨g, o, none⟩ = some (.string (bs (opName o)))) ∧ Below w.heap.size w w' := by
  go_enter Tryz.func55, Tryz.ntmps55
  go_wp2
  go_ret
  refine ⟨_, rfl, Nat.le_refl _, by simp, fun o ho => ?_, (Below.refl _ _).alloc (Nat.le_refl _) _⟩
  rw [World.cell?_alloc_new]
  rcases (show o = 0 ∨ o = 1 ∨ o = 2 ∨ o = 3 ∨ o = 4 ∨ o = 5 ∨ o = 6 ∨ o = 7 ∨ o = 8 ∨ o = 9 ∨ o = 10 ∨ o = 11 ∨ o = 12 ∨ o = 13 ∨ o = 14 ∨ o = 15 by omega) with rfl | rfl | rfl | rfl | rfl | rfl | rfl | rfl | rfl | rfl | rfl | rfl | rfl | rfl | rfl | rfl <;> rfl
theorem rconds_any (w : World) : Calls Tryz.prog 52 #[] w fun e w' => ∃ g, e = .returned (.slice (some ⟨g, 0, none⟩) 16 16) ∧ w.heap.size ≤ g ∧ g < w'.heap.size ∧ (∀ o : Nat, o < 16 → w'.cell? ⟨g, o, none⟩ = some (.string (bs (condName o)))) ∧ Below w.heap.size w w' := by
  go_enter Tryz.func52, Tryz.ntmps52
  go_wp2
  go_ret
  refine ⟨_, rfl, Nat.le_refl _, by simp, fun o ho => ?_, (Below.refl _ _).alloc (Nat.le_refl _) _⟩
  rw [World.cell?_alloc_new]
  rcases (show o = 0 ∨ o = 1 ∨ o = 2 ∨ o = 3 ∨ o = 4 ∨ o = 5 ∨ o = 6 ∨ o = 7 ∨ o = 8 ∨ o = 9 ∨ o = 10 ∨ o = 11 ∨ o = 12 ∨ o = 13 ∨ o = 14 ∨ o = 15 by omega) with rfl | rfl | rfl | rfl | rfl | rfl | rfl | rfl | rfl | rfl | rfl | rfl | rfl | rfl | rfl | rfl <;> rfl
end Go.Proofs.YtmldlkcgaepaaaaGreatDoor
