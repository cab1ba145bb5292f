/-
  Accesses as plain data; Access, the program's, for every processor and instruction.
-/
import Derived.Test.YtpiiidelmcnhnaaDoorDoor
import Derived.Test.YtpiiidelmcnhnaaDoorRightR
namespace Go.Proofs.YtpiiidelmcnhnaaDoor
open Go.ChangeShapes Go.WideShapes Go.ChangeAt Go.RowKit
attribute [local go_sem ↓] loadCpu_seal storeCpu_seal loadIn_seal storeIn_seal
attribute [local go_sem] loadCpu_run storeCpu_run loadIn_run storeIn_run rowAt_at rowAt_past rowAt_drew rowAt_drewN roomCpu_new roomIn_new roomAt_old roomAt_drew roomAt_drewN putCpu_new putIn_new Cp.zero_fold In.fold putRow_past rowCpu_put rowIn_put size_put putRow_drew putRow_drewN alloc_drewN setCell_drewN Cp.at16 Cp.at17 Cp.at18 Cp.at19 Cp.at20 Cp.at21 Cp.size Cp.set16 Cp.set17 Cp.set18 Cp.set19 Cp.set20 Cp.set21 In.at0 In.at1 In.at2 In.at3 In.at4 In.at5 In.at6 In.at7 In.size In.set0 In.set1 In.set2 In.set3 In.ne Cp.ne In.set4 In.set5 In.set6 In.set7

structure Ac where
  K : Int
  D : Int
  V : Int
def Ac.cells (c : Ac) : Array Value := #[.int .i64 c.K, .int .u32 c.D, .int .u32 c.V]
theorem Ac.at0 (c : Ac) : c.cells[0]? = some (.int .i64 c.K) := rfl
theorem Ac.at1 (c : Ac) : c.cells[1]? = some (.int .u32 c.D) := rfl
theorem Ac.at2 (c : Ac) : c.cells[2]? = some (.int .u32 c.V) := rfl
theorem Ac.size (c : Ac) : c.cells.size = 3 := rfl
theorem Ac.set0 (c : Ac) (x : Int) : c.cells.setIfInBounds 0 (.int .i64 x) = { c with K := x }.cells := rfl
theorem Ac.set1 (c : Ac) (x : Int) : c.cells.setIfInBounds 1 (.int .u32 x) = { c with D := x }.cells := rfl
theorem Ac.set2 (c : Ac) (x : Int) : c.cells.setIfInBounds 2 (.int .u32 x) = { c with V := x }.cells := rfl
theorem Ac.ne (c : Ac) : (c.cells = #[]) = False := by simp [Ac.cells]
theorem Ac.fold (k d v : Int) : #[.int .i64 k, .int .u32 d, .int .u32 v] = ({ K := k, D := d, V := v } : Ac).cells := rfl
theorem putAc_new (w : World) (t : TypeId) (c d : Ac) (k : Nat) (hk : k = w.heap.size) : putRow (w.alloc (.cells d.cells t)) k c.cells = w.alloc (.cells c.cells t) := putRow_new w t _ _ k hk rfl
theorem roomAc_new (w : World) (c : Ac) (t : TypeId) (k : Nat) (hk : k = w.heap.size) : roomAt (w.alloc (.cells c.cells t)) k 3 = true := roomAt_new w _ t _ k hk rfl
theorem rowAc_put (w : World) (b : Nat) (c : Ac) (h : roomAt w b 3 = true) : rowAt (putRow w b c.cells) b = some c.cells := rowAt_put h
def loadAc (a : Addr) : Sem Value := loadVar 40 a
theorem loadAc_seal (a : Addr) : loadVar 40 a = loadAc a := rfl
theorem Tryd.sizeAc : (Tryd.prog.info? 40).map (·.size) = some 3 := by kernel_rfl
theorem loadAc_run (w : World) (b : Nat) : (loadAc ⟨b, 0, none⟩).run Tryd.prog w = (match rowAt w b with
    | some X => if X.size = 3 then .ok (.agg X) w else (loadAc ⟨b, 0 + 0, none⟩).run Tryd.prog w
    | none => (loadAc ⟨b, 0 + 0, none⟩).run Tryd.prog w) := by
  split
  · rename_i X hX
    split
    · rename_i hs
      have hl : X.toList.length = 3 := by simpa using hs
      have := run_loadVar_mid (P := Tryd.prog) w b 0 40 X.toList _ (fun j v hv => by rw [Nat.zero_add, rowAt_cell hX]; simpa using hv) Tryd.underlying40 rfl (by rw [hl]; exact Tryd.sizeAc)
      simpa [loadAc] using this
    · rfl
  · rfl
def storeAc (a : Addr) (v : Value) : Sem Unit := storeVar 40 a v
theorem storeAc_seal (a : Addr) (v : Value) : storeVar 40 a v = storeAc a v := rfl
theorem storeAc_run (w : World) (b : Nat) (c : Ac) (h : roomAt w b 3 = true) : (storeAc ⟨b, 0, none⟩ (.agg c.cells)).run Tryd.prog w = .ok () (putRow w b c.cells) := by
  rw [putRow_eq]; exact run_storeVar_mid w b 0 40 c.cells (room_there h) Tryd.sizeAc (by simp [Ac.cells, Value.oneCell'])


theorem loadAc_row {w : World} {b : Nat} {c : Ac} (h : rowAt w b = some c.cells) : (loadVar 40 ⟨b, 0, none⟩).run Tryd.prog w = .ok (.agg c.cells) w := by
  rw [loadAc_seal, loadAc_run, h]; simp [Ac.size]
attribute [local go_sem ↓] loadAc_seal storeAc_seal
attribute [local go_sem] loadAc_run storeAc_run putAc_new roomAc_new rowAc_put Ac.at0 Ac.at1 Ac.at2 Ac.size Ac.set0 Ac.set1 Ac.set2 Ac.ne Ac.fold
def accK (u v : Bool) : Int := if u then (if v then 4 else 3) else (if v then 2 else 1)
def accV (u v : Bool) (x : Int) : Int := if u then (if v then x % 256 else x) else 0
def accA (c : Cp) (i : In) : Ac := if rightB i = true ∧ i.F = 2 then { K := accK i.U i.V, D := (c.R i.B.toNat + i.N) % 4294967296, V := accV i.U i.V (c.R i.A.toNat) } else { K := 0, D := 0, V := 0 }
theorem lowest_any (x : Int) (w : World) (h0 : 0 ≤ x) (h1 : x ≤ 4294967295) : Calls Tryd.prog 26 #[.int .u32 x] w fun e w' => e = .returned (.int .u32 (x % 256)) ∧ w' = w := by
  have hm := and_mask x 8 (by omega) h0 h1
  have e : (2 : Int) ^ 8 = 256 := by decide
  rw [e] at hm
  have H : Hid (bits .and .u32 x 255 = x % 256) := hm
  clear hm e
  go_enter Tryd.func26, Tryd.ntmps26
  go_wp2
  go_ret
  exact ⟨ret_int H.out, rfl⟩
set_option maxHeartbeats 2000000 in
theorem access_any (c : Cp) (i : In) (w : World) (hw : Ways w) (hc : c.Ok) : Calls Tryd.prog 14 #[.agg c.cells, .agg i.cells] w fun e w' => e = .returned (.agg (accA c i).cells) ∧ Below w.heap.size w w' := by
  have K0 : Hid (Keeps w [(w.heap.size + 2, ({ K := 0, D := 0, V := 0 } : Ac).cells), (w.heap.size + 1, i.cells), (w.heap.size, c.cells)] (((w.alloc (.cells c.cells 38)).alloc (.cells i.cells 24)).alloc (.cells ({ K := 0, D := 0, V := 0 } : Ac).cells 40))) := keeps3 w _ _ _ _ _ _
  have HW : Hid (Ways (((w.alloc (.cells c.cells 38)).alloc (.cells i.cells 24)).alloc (.cells ({ K := 0, D := 0, V := 0 } : Ac).cells 40))) := ((hw.alloc _).alloc _).alloc _
  clear hw
  by_cases hF : i.F = 2
  · cases hr : rightB i
    · have ha : accA c i = { K := 0, D := 0, V := 0 } := by simp [accA, hr]
      rw [ha]
      clear ha
      go_enter Tryd.func14, Tryd.ntmps14
      go_wp2_with (go_at_call 19; refine (right_any i _ HW.out).mono ?_; rw [hr]; rintro e w1 ⟨rfl, hb⟩; have HK : Hid (Keeps w [(w.heap.size + 2, ({ K := 0, D := 0, V := 0 } : Ac).cells), (w.heap.size + 1, i.cells), (w.heap.size, c.cells)] w1) := K0.out.call hb; have q5 : roomAt w1 (w.heap.size + 1 + 1) 3 = true := HK.out.room (b := w.heap.size + 2) (c := ({ K := 0, D := 0, V := 0 } : Ac).cells) (by simp))
      exact ret_cell1 rfl rfl (loadAc_row (rowAc_put _ _ _ q5)) rfl ⟨rfl, below_put HK.out.1 _ (by omega) _⟩
    · have R := right_bd hr
      obtain ⟨⟨a0, a1⟩, ⟨b0, b1⟩, _, _⟩ := R
      have ga := Cp.atR c i.A.toNat (by omega)
      have gb := Cp.atR c i.B.toNat (by omega)
      have xa := hc.R i.A.toNat (by omega)
      have xb := hc.R i.B.toNat (by omega)
      have w11 : wayI true true = 8 := rfl
      have w10 : wayI true false = 4 := rfl
      have w01 : wayI false true = 2 := rfl
      have w00 : wayI false false = 1 := rfl
      have HA : Hid (accA c i = { K := accK i.U i.V, D := (c.R i.B.toNat + i.N) % 4294967296, V := accV i.U i.V (c.R i.A.toNat) }) := by
        show _ = _
        simp [accA, hr, hF]
      cases hU : i.U <;> cases hV : i.V
      all_goals
        go_enter Tryd.func14, Tryd.ntmps14
        go_wp2_with (go_at_call 19; refine (right_any i _ HW.out).mono ?_; rw [hr]; rintro e w1 ⟨rfl, hb⟩; have HK : Hid (Keeps w [(w.heap.size + 2, ({ K := 0, D := 0, V := 0 } : Ac).cells), (w.heap.size + 1, i.cells), (w.heap.size, c.cells)] w1) := K0.out.call hb; have l1 := HK.out.cell (b := w.heap.size) (c := c.cells) (by simp); have l2 := HK.out.cell (b := w.heap.size + 1) (c := i.cells) (by simp); have q2 := HK.out.row (b := w.heap.size + 1) (c := i.cells) (by simp))
        go_quiet (fail)
        go_wp2_with (first | (go_at_call 25; refine (way_any i _).mono ?_; rintro e w2 ⟨rfl, hb2⟩; have HK2 : Hid (Keeps w [(w.heap.size + 2, ({ K := 0, D := 0, V := 0 } : Ac).cells), (w.heap.size + 1, i.cells), (w.heap.size, c.cells)] w2) := Keeps.call hb2 ⟨bdrewN HK.out.1 _, HK.out.2⟩; have m1 := HK2.out.cell (b := w.heap.size) (c := c.cells) (by simp); have m2 := HK2.out.cell (b := w.heap.size + 1) (c := i.cells) (by simp); have q5 : roomAt w2 (w.heap.size + 1 + 1) 3 = true := HK2.out.room (b := w.heap.size + 2) (c := ({ K := 0, D := 0, V := 0 } : Ac).cells) (by simp)) | (go_at_call 26; refine (lowest_any _ _ xa.1 xa.2).mono ?_; rintro e w' ⟨rfl, hx⟩; obtain rfl := hx.symm; clear hx))
        refine ret_cell1 rfl rfl (loadAc_row (rowAc_put _ _ _ q5)) rfl ⟨?_, below_put HK2.out.1 _ (by omega) _⟩
        rw [HA.out, hU, hV]
        simp [accK, accV]
  · have ha : accA c i = { K := 0, D := 0, V := 0 } := by simp [accA, hF]
    rw [ha]
    have hne : (i.F != 2) = true := by simpa [bne] using hF
    clear ha hF
    go_enter Tryd.func14, Tryd.ntmps14
    go_wp2
    refine ret_cell1 rfl rfl (loadAc_row (c := { K := 0, D := 0, V := 0 }) ?_) rfl ⟨rfl, ?_⟩
    · simp [go_sem]
    · go_grown
end Go.Proofs.YtpiiidelmcnhnaaDoor
