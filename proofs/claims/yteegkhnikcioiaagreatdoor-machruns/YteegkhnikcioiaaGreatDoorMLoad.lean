/-
  Which device stands at an address.
  A word is loaded, from memory or from a device.
-/
import Derived.Test.YteegkhnikcioiaaGreatDoorMMem
import Derived.Test.YteegkhnikcioiaaGreatDoorMObey
namespace Go.Proofs.YteegkhnikcioiaaGreatDoor
open Go.ChangeShapes Go.WideShapes Go.ChangeAt Go.RowKit
attribute [local go_sem ↓] loadSec_seal storeSec_seal eqlSec_seal zeroSec
attribute [local go_sem] loadSec_run storeSec_run rowAt_at rowAt_old rowAt_drew rowAt_drewN roomSec_new roomAt_old roomAt_drew roomAt_drewN putSec_new putRow_past rowSec_put size_put putRow_drew putRow_drewN alloc_drewN setCell_drewN sec_size

set_option linter.unusedVariables false

theorem Tryz.sizeDev : (Tryz.prog.info? 138).map (·.size) = some 3 := by kernel_rfl
theorem load_dev {w : World} {g : Nat} {X : Array Value} (h : rowAt w g = some X) (hs : X.size = 3) : (loadVar 138 ⟨g, 0, none⟩).run Tryz.prog w = .ok (.agg X) w := by
  have hl : X.toList.length = 3 := by simpa using hs
  have := run_loadVar_mid (P := Tryz.prog) w g 0 138 X.toList _ (fun j v hv => by rw [Nat.zero_add, rowAt_cell h]; simpa using hv) Tryz.underlying138 rfl (by rw [hl]; exact Tryz.sizeDev)
  simpa using this
theorem three_put {w : World} {g : Nat} {x0 x1 x2 : Value} (hr : rowAt w g = some #[x0, x1, x2]) (v0 v1 v2 : Value) : rowAt (((w.setCell ⟨g, 0, none⟩ v0).setCell ⟨g, 1, none⟩ v1).setCell ⟨g, 2, none⟩ v2) g = some #[v0, v1, v2] := by
  have hb := hr
  unfold rowAt at hb
  split at hb
  case h_2 => cases hb
  rename_i Y t fr hY
  have e : Y = #[x0, x1, x2] := Option.some.inj hb
  subst e
  have b1 := Go.Joins.block_setCell (i := 0) hY v0
  have b2 := Go.Joins.block_setCell (i := 1) b1 v1
  have b3 := Go.Joins.block_setCell (i := 2) b2 v2
  unfold rowAt; rw [b3]; rfl
theorem dev_row {w wr : World} {x0 x1 x2 : Value} (hB : Below w.heap.size w wr) (hr : rowAt wr w.heap.size = some #[x0, x1, x2]) (_ho : roomAt wr w.heap.size 3 = true) (v0 v1 v2 : Value) (o : Obj) :
    rowAt ((((wr.setCell ⟨w.heap.size, 0, none⟩ v0).setCell ⟨w.heap.size, 1, none⟩ v1).setCell ⟨w.heap.size, 2, none⟩ v2).alloc o) w.heap.size = some #[v0, v1, v2] ∧ Below w.heap.size w ((((wr.setCell ⟨w.heap.size, 0, none⟩ v0).setCell ⟨w.heap.size, 1, none⟩ v1).setCell ⟨w.heap.size, 2, none⟩ v2).alloc o) := by
  have hl := rowAt_lt hr
  refine ⟨?_, (((hB.setCell (Nat.le_refl _) _).setCell (Nat.le_refl _) _).setCell (Nat.le_refl _) _).alloc (by simpa using hB.size) _⟩
  rw [rowAt_old _ _ _ (by simp; omega)]
  exact three_put hr v0 v1 v2
/-- Which device stands there; 7: none. -/
def devN (a : Int) : Nat := if a = 4294967232 then 0 else if a = 4294967236 then 1 else if a = 4294967240 then 2 else if a = 4294967244 then 3 else if a = 4294967248 then 4 else if a = 4294967252 then 5 else if a = 4294967256 then 6 else 7
def devA : Nat → Int
  | 7 => 0
  | k => 4294967232 + 4 * k
def devV (b cb k : Nat) : Value := .agg #[.int .u32 (devA k), devLoad b cb k, devStore b cb k]
structure DevC (w : World) (v b cb : Nat) : Prop where
  c : ∀ j, w.cell? ⟨v, j, none⟩ = (devs b cb)[j]?
theorem dev_cells {w : World} {v b cb : Nat} (h : rowAt w v = some (devs b cb)) : ∀ j, w.cell? ⟨v, j, none⟩ = (devs b cb)[j]? := fun j => rowAt_cell h j
theorem devN_le (a : Int) : devN a ≤ 7 := by
  unfold devN
  repeat (first | omega | split)
theorem devN_next (a : Int) (k : Nat) (h : k ≤ devN a) (hk : k < 7) (ha : ¬ a = 4294967232 + 4 * (k : Int)) : k + 1 ≤ devN a := by
  rcases Nat.lt_or_ge k (devN a) with h1 | h1
  · exact h1
  · exfalso
    have e : devN a = k := Nat.le_antisymm h1 h
    unfold devN at e
    repeat (first | omega | split at e)
set_option maxHeartbeats 4000000 in
theorem deviceAt_any (b : Nat) (P : Ph) (L : Lg) (a : Int) (w : World) (h : Bus w b P L) : Calls Tryz.prog 129 #[.pointer (some ⟨b, 0, none⟩), .int .u32 a] w fun e w' => e = .returned (devV b P.cb (devN a)) ∧ Below w.heap.size w w' := by
  have c2 := h.nine.c2
  have HD : Hid (∀ X : World, Below w.heap.size w X → ∀ j, X.cell? ⟨P.vb, j, none⟩ = (devs b P.cb)[j]?) := fun X hX => dev_cells ((rowAt_same (hX.block _ (h.lt _ (.inr (.inr (.inl rfl)))))).trans h.dev)
  have hlt := h.blt
  clear h
  go_enter Tryz.func129, Tryz.ntmps129
  go_wp2
  go_loopw [6, 12] (fun _ i X => ∃ k : Nat, k ≤ devN a ∧ i = .int .i64 k ∧ Below w.heap.size w X ∧ rowAt X w.heap.size = some #[.int .u32 0, .nilFunc, .nilFunc] ∧ roomAt X w.heap.size 3 = true) (fun _ i _ => 7 - (intOf i).toNat)
  case atStart => exact ⟨0, Nat.zero_le _, rfl, (Below.refl _ w).alloc (Nat.le_refl _) _, rowAt_new _ _ _ _, roomAt_new _ _ _ _ _ rfl rfl⟩
  case round =>
    obtain ⟨k, hk, rfl, hX, hr, ho⟩ := hrel
    have hlt := rowAt_lt hr
    have HB : Hid (Below w.heap.size w _) := hX
    have HK : Hid (k ≤ devN a) := hk
    have HR : Hid _ := hr
    have HO : Hid _ := ho
    have r0 := rowAt_cell hr 0
    have r1 := rowAt_cell hr 1
    have r2 := rowAt_cell hr 2
    have f0 := (room_there ho 0 (by omega)).2
    have f1 := (room_there ho 1 (by omega)).2
    have f2 := (room_there ho 2 (by omega)).2
    simp only [Nat.zero_add] at f0 f1 f2
    have hk7 : k ≤ 7 := Nat.le_trans hk (devN_le a)
    clear hk hr ho
    have hk : k = 0 ∨ k = 1 ∨ k = 2 ∨ k = 3 ∨ k = 4 ∨ k = 5 ∨ k = 6 ∨ k = 7 := by omega
    clear hk7
    rcases hk with rfl | rfl | rfl | rfl | rfl | rfl | rfl | rfl
    · have d0 : wr.cell? ⟨P.vb, 0, none⟩ = some (.int .u32 4294967232) := HD.out _ HB.out 0
      have d1 : wr.cell? ⟨P.vb, 1, none⟩ = some (.func (.func 71) #[] #[.pointer (some ⟨P.cb, 0, none⟩)]) := HD.out _ HB.out 1
      have d2 : wr.cell? ⟨P.vb, 2, none⟩ = some (.nilFunc) := HD.out _ HB.out 2
      by_cases ha : a = 4294967232
      · have HV : Hid (devV b P.cb 0 = devV b P.cb (devN a)) := by rw [ha]; rfl
        have he : ((a : Int) == 4294967232) = true := by simp [ha]
        clear HD
        subst ha
        go_wp2
        refine ret_cell1 (v := devV b P.cb 0) rfl rfl ?_ rfl ⟨by rw [HV.out], ?_⟩
        · exact load_dev (dev_row HB.out HR.out HO.out _ _ _ _).1 rfl
        · exact (dev_row HB.out HR.out HO.out _ _ _ _).2
      · have HN : Hid (1 ≤ devN a) := devN_next a 0 HK.out (by omega) (by simpa using ha)
        clear HD
        go_wp2
        go_roundw
        case rel => exact ⟨1, HN.out, by go_num, HB.out.alloc HB.out.size _, (rowAt_old _ _ _ (Nat.ne_of_lt hlt)).trans HR.out, (roomAt_old _ _ _ _ hlt).trans HO.out⟩
        case measure => simp [intOf]
    · have d0 : wr.cell? ⟨P.vb, 3, none⟩ = some (.int .u32 4294967236) := HD.out _ HB.out 3
      have d1 : wr.cell? ⟨P.vb, 4, none⟩ = some (.func (.func 72) #[.pointer (some ⟨b, 0, none⟩)] #[]) := HD.out _ HB.out 4
      have d2 : wr.cell? ⟨P.vb, 5, none⟩ = some (.func (.func 73) #[.pointer (some ⟨b, 0, none⟩)] #[]) := HD.out _ HB.out 5
      by_cases ha : a = 4294967236
      · have HV : Hid (devV b P.cb 1 = devV b P.cb (devN a)) := by rw [ha]; rfl
        have he : ((a : Int) == 4294967236) = true := by simp [ha]
        clear HD
        subst ha
        go_wp2
        refine ret_cell1 (v := devV b P.cb 1) rfl rfl ?_ rfl ⟨by rw [HV.out], ?_⟩
        · exact load_dev (dev_row HB.out HR.out HO.out _ _ _ _).1 rfl
        · exact (dev_row HB.out HR.out HO.out _ _ _ _).2
      · have HN : Hid (2 ≤ devN a) := devN_next a 1 HK.out (by omega) (by simpa using ha)
        clear HD
        go_wp2
        go_roundw
        case rel => exact ⟨2, HN.out, by go_num, HB.out.alloc HB.out.size _, (rowAt_old _ _ _ (Nat.ne_of_lt hlt)).trans HR.out, (roomAt_old _ _ _ _ hlt).trans HO.out⟩
        case measure => simp [intOf]
    · have d0 : wr.cell? ⟨P.vb, 6, none⟩ = some (.int .u32 4294967240) := HD.out _ HB.out 6
      have d1 : wr.cell? ⟨P.vb, 7, none⟩ = some (.func (.func 74) #[.pointer (some ⟨b, 0, none⟩)] #[]) := HD.out _ HB.out 7
      have d2 : wr.cell? ⟨P.vb, 8, none⟩ = some (.nilFunc) := HD.out _ HB.out 8
      by_cases ha : a = 4294967240
      · have HV : Hid (devV b P.cb 2 = devV b P.cb (devN a)) := by rw [ha]; rfl
        have he : ((a : Int) == 4294967240) = true := by simp [ha]
        clear HD
        subst ha
        go_wp2
        refine ret_cell1 (v := devV b P.cb 2) rfl rfl ?_ rfl ⟨by rw [HV.out], ?_⟩
        · exact load_dev (dev_row HB.out HR.out HO.out _ _ _ _).1 rfl
        · exact (dev_row HB.out HR.out HO.out _ _ _ _).2
      · have HN : Hid (3 ≤ devN a) := devN_next a 2 HK.out (by omega) (by simpa using ha)
        clear HD
        go_wp2
        go_roundw
        case rel => exact ⟨3, HN.out, by go_num, HB.out.alloc HB.out.size _, (rowAt_old _ _ _ (Nat.ne_of_lt hlt)).trans HR.out, (roomAt_old _ _ _ _ hlt).trans HO.out⟩
        case measure => simp [intOf]
    · have d0 : wr.cell? ⟨P.vb, 9, none⟩ = some (.int .u32 4294967244) := HD.out _ HB.out 9
      have d1 : wr.cell? ⟨P.vb, 10, none⟩ = some (.func (.func 75) #[] #[.pointer (some ⟨P.cb, 0, none⟩)]) := HD.out _ HB.out 10
      have d2 : wr.cell? ⟨P.vb, 11, none⟩ = some (.func (.func 76) #[] #[.pointer (some ⟨P.cb, 0, none⟩)]) := HD.out _ HB.out 11
      by_cases ha : a = 4294967244
      · have HV : Hid (devV b P.cb 3 = devV b P.cb (devN a)) := by rw [ha]; rfl
        have he : ((a : Int) == 4294967244) = true := by simp [ha]
        clear HD
        subst ha
        go_wp2
        refine ret_cell1 (v := devV b P.cb 3) rfl rfl ?_ rfl ⟨by rw [HV.out], ?_⟩
        · exact load_dev (dev_row HB.out HR.out HO.out _ _ _ _).1 rfl
        · exact (dev_row HB.out HR.out HO.out _ _ _ _).2
      · have HN : Hid (4 ≤ devN a) := devN_next a 3 HK.out (by omega) (by simpa using ha)
        clear HD
        go_wp2
        go_roundw
        case rel => exact ⟨4, HN.out, by go_num, HB.out.alloc HB.out.size _, (rowAt_old _ _ _ (Nat.ne_of_lt hlt)).trans HR.out, (roomAt_old _ _ _ _ hlt).trans HO.out⟩
        case measure => simp [intOf]
    · have d0 : wr.cell? ⟨P.vb, 12, none⟩ = some (.int .u32 4294967248) := HD.out _ HB.out 12
      have d1 : wr.cell? ⟨P.vb, 13, none⟩ = some (.func (.func 77) #[] #[.pointer (some ⟨P.cb, 0, none⟩)]) := HD.out _ HB.out 13
      have d2 : wr.cell? ⟨P.vb, 14, none⟩ = some (.func (.func 78) #[] #[.pointer (some ⟨P.cb, 0, none⟩)]) := HD.out _ HB.out 14
      by_cases ha : a = 4294967248
      · have HV : Hid (devV b P.cb 4 = devV b P.cb (devN a)) := by rw [ha]; rfl
        have he : ((a : Int) == 4294967248) = true := by simp [ha]
        clear HD
        subst ha
        go_wp2
        refine ret_cell1 (v := devV b P.cb 4) rfl rfl ?_ rfl ⟨by rw [HV.out], ?_⟩
        · exact load_dev (dev_row HB.out HR.out HO.out _ _ _ _).1 rfl
        · exact (dev_row HB.out HR.out HO.out _ _ _ _).2
      · have HN : Hid (5 ≤ devN a) := devN_next a 4 HK.out (by omega) (by simpa using ha)
        clear HD
        go_wp2
        go_roundw
        case rel => exact ⟨5, HN.out, by go_num, HB.out.alloc HB.out.size _, (rowAt_old _ _ _ (Nat.ne_of_lt hlt)).trans HR.out, (roomAt_old _ _ _ _ hlt).trans HO.out⟩
        case measure => simp [intOf]
    · have d0 : wr.cell? ⟨P.vb, 15, none⟩ = some (.int .u32 4294967252) := HD.out _ HB.out 15
      have d1 : wr.cell? ⟨P.vb, 16, none⟩ = some (.func (.func 79) #[] #[.pointer (some ⟨P.cb, 0, none⟩)]) := HD.out _ HB.out 16
      have d2 : wr.cell? ⟨P.vb, 17, none⟩ = some (.func (.func 80) #[.pointer (some ⟨b, 0, none⟩)] #[]) := HD.out _ HB.out 17
      by_cases ha : a = 4294967252
      · have HV : Hid (devV b P.cb 5 = devV b P.cb (devN a)) := by rw [ha]; rfl
        have he : ((a : Int) == 4294967252) = true := by simp [ha]
        clear HD
        subst ha
        go_wp2
        refine ret_cell1 (v := devV b P.cb 5) rfl rfl ?_ rfl ⟨by rw [HV.out], ?_⟩
        · exact load_dev (dev_row HB.out HR.out HO.out _ _ _ _).1 rfl
        · exact (dev_row HB.out HR.out HO.out _ _ _ _).2
      · have HN : Hid (6 ≤ devN a) := devN_next a 5 HK.out (by omega) (by simpa using ha)
        clear HD
        go_wp2
        go_roundw
        case rel => exact ⟨6, HN.out, by go_num, HB.out.alloc HB.out.size _, (rowAt_old _ _ _ (Nat.ne_of_lt hlt)).trans HR.out, (roomAt_old _ _ _ _ hlt).trans HO.out⟩
        case measure => simp [intOf]
    · have d0 : wr.cell? ⟨P.vb, 18, none⟩ = some (.int .u32 4294967256) := HD.out _ HB.out 18
      have d1 : wr.cell? ⟨P.vb, 19, none⟩ = some (.func (.func 81) #[] #[.pointer (some ⟨P.cb, 0, none⟩)]) := HD.out _ HB.out 19
      have d2 : wr.cell? ⟨P.vb, 20, none⟩ = some (.nilFunc) := HD.out _ HB.out 20
      by_cases ha : a = 4294967256
      · have HV : Hid (devV b P.cb 6 = devV b P.cb (devN a)) := by rw [ha]; rfl
        have he : ((a : Int) == 4294967256) = true := by simp [ha]
        clear HD
        subst ha
        go_wp2
        refine ret_cell1 (v := devV b P.cb 6) rfl rfl ?_ rfl ⟨by rw [HV.out], ?_⟩
        · exact load_dev (dev_row HB.out HR.out HO.out _ _ _ _).1 rfl
        · exact (dev_row HB.out HR.out HO.out _ _ _ _).2
      · have HN : Hid (7 ≤ devN a) := devN_next a 6 HK.out (by omega) (by simpa using ha)
        clear HD
        go_wp2
        go_roundw
        case rel => exact ⟨7, HN.out, by go_num, HB.out.alloc HB.out.size _, (rowAt_old _ _ _ (Nat.ne_of_lt hlt)).trans HR.out, (roomAt_old _ _ _ _ hlt).trans HO.out⟩
        case measure => simp [intOf]
    · have HV : Hid (devV b P.cb 7 = devV b P.cb (devN a)) := by show devV b P.cb 7 = devV b P.cb (devN a); rw [Nat.le_antisymm (devN_le a) HK.out]
      clear HD
      go_wp2
      refine ret_cell1 (v := devV b P.cb 7) rfl rfl ?_ rfl ⟨by rw [HV.out], ?_⟩
      · exact load_dev (three_put HR.out _ _ _) rfl
      · exact ((HB.out.setCell (Nat.le_refl _) _).setCell (Nat.le_refl _) _).setCell (Nat.le_refl _) _
end Go.Proofs.YteegkhnikcioiaaGreatDoor

namespace Go.Proofs.YteegkhnikcioiaaGreatDoor
open Go.ChangeShapes Go.WideShapes Go.ChangeAt Go.RowKit
attribute [local go_sem ↓] loadSec_seal storeSec_seal eqlSec_seal zeroSec
attribute [local go_sem] loadSec_run storeSec_run rowAt_at rowAt_old rowAt_drew rowAt_drewN roomSec_new roomAt_old roomAt_drew roomAt_drewN putSec_new putRow_past rowSec_put size_put putRow_drew putRow_drewN alloc_drewN setCell_drewN sec_size

set_option linter.unusedVariables false

theorem field_load (x0 x1 x2 : Value) (X : World) : (Instr.field 138 (.agg #[x0, x1, x2]) 1).run Tryz.prog X = .ok x1 X := by kernel_rfl
theorem field_store (x0 x1 x2 : Value) (X : World) : (Instr.field 138 (.agg #[x0, x1, x2]) 2).run Tryz.prog X = .ok x2 X := by kernel_rfl
theorem neq_load (fn : Fn) (first cap : Array Value) (X : World) : (binOp .neq 136 (.func fn first cap) .nilFunc).run Tryz.prog X = .ok (.bool true) X := by kernel_rfl
theorem neq_loadn (X : World) : (binOp .neq 136 .nilFunc .nilFunc).run Tryz.prog X = .ok (.bool false) X := by kernel_rfl
theorem neq_store (fn : Fn) (first cap : Array Value) (X : World) : (binOp .neq 69 (.func fn first cap) .nilFunc).run Tryz.prog X = .ok (.bool true) X := by kernel_rfl
theorem neq_storen (X : World) : (binOp .neq 69 .nilFunc .nilFunc).run Tryz.prog X = .ok (.bool false) X := by kernel_rfl
/-- What is loaded as a word, how it ends, and what is held behind it. -/
def Lg.dev (L : Lg) : Nat → (Int × Int) × Lg
  | 0 => ((L.tk, 0), L)
  | 1 => match L.I with
    | [] => ((0, 2), L)
    | x :: r => ((x, 0), { L with I := r })
  | 2 => ((if L.I = [] then 2 else 3, 0), L)
  | 3 => ((L.sc, 0), L)
  | 4 => ((L.ad, 0), L)
  | 5 => ((L.cm, 0), L)
  | 6 => (((L.n : Int), 0), L)
  | _ => ((0, 1), L)
def Lg.load (L : Lg) (a : Int) : (Int × Int) × Lg := if isW a then ((wordAt L.M a, 0), L) else L.dev (devN a)
theorem ret2i {a a' b b' : Int} (h : a = a') (g : b = b') : Ending.returned (.tuple #[.int .u32 a, .int .i64 b]) = .returned (.tuple #[.int .u32 a', .int .i64 b']) := by rw [h, g]
theorem loadWord_mem (b : Nat) (P : Ph) (L : Lg) (a : Int) (w : World) (h : Bus w b P L) (a0 : 0 ≤ a) (a1 : a ≤ 4294967295) (hw : isW a = true) : Calls Tryz.prog 101 #[.pointer (some ⟨b, 0, none⟩), .int .u32 a] w fun e w' => e = .returned (.tuple #[.int .u32 (wordAt L.M a), .int .i64 0]) ∧ ∃ P', Stp w b P w' P' L := by
  have H : Hid (Bus w b P L) := h
  have HG : Hid (gotV L.M a = wordAt L.M a) := if_pos hw
  clear h
  go_enter Tryz.func101, Tryz.ntmps101
  go_wp2_with (go_at_call 46; refine (word_any b P L a _ H.out a0 a1).mono ?_; rw [hw]; rintro e w1 ⟨rfl, hb⟩)
  go_ret2
  exact ⟨ret2i HG.out rfl, P, Stp.below H.out hb⟩
theorem dev_any (b : Nat) (P : Ph) (L : Lg) (a : Int) (k : Nat) (w : World) (h : Bus w b P L) (hk : devN a = k) : Calls Tryz.prog 129 #[.pointer (some ⟨b, 0, none⟩), .int .u32 a] w fun e w' => e = .returned (devV b P.cb k) ∧ Below w.heap.size w w' := hk ▸ deviceAt_any b P L a w h
theorem dev_0 (b : Nat) (P : Ph) (L : Lg) (a : Int) (w : World) (h : Bus w b P L) (hk : devN a = 0) : Calls Tryz.prog 129 #[.pointer (some ⟨b, 0, none⟩), .int .u32 a] w fun e w' => e = .returned (.agg #[.int .u32 4294967232, .func (.func 71) #[] #[.pointer (some ⟨P.cb, 0, none⟩)], .nilFunc]) ∧ Below w.heap.size w w' := dev_any b P L a 0 w h hk
theorem dev_1 (b : Nat) (P : Ph) (L : Lg) (a : Int) (w : World) (h : Bus w b P L) (hk : devN a = 1) : Calls Tryz.prog 129 #[.pointer (some ⟨b, 0, none⟩), .int .u32 a] w fun e w' => e = .returned (.agg #[.int .u32 4294967236, .func (.func 72) #[.pointer (some ⟨b, 0, none⟩)] #[], .func (.func 73) #[.pointer (some ⟨b, 0, none⟩)] #[]]) ∧ Below w.heap.size w w' := dev_any b P L a 1 w h hk
theorem dev_2 (b : Nat) (P : Ph) (L : Lg) (a : Int) (w : World) (h : Bus w b P L) (hk : devN a = 2) : Calls Tryz.prog 129 #[.pointer (some ⟨b, 0, none⟩), .int .u32 a] w fun e w' => e = .returned (.agg #[.int .u32 4294967240, .func (.func 74) #[.pointer (some ⟨b, 0, none⟩)] #[], .nilFunc]) ∧ Below w.heap.size w w' := dev_any b P L a 2 w h hk
theorem dev_3 (b : Nat) (P : Ph) (L : Lg) (a : Int) (w : World) (h : Bus w b P L) (hk : devN a = 3) : Calls Tryz.prog 129 #[.pointer (some ⟨b, 0, none⟩), .int .u32 a] w fun e w' => e = .returned (.agg #[.int .u32 4294967244, .func (.func 75) #[] #[.pointer (some ⟨P.cb, 0, none⟩)], .func (.func 76) #[] #[.pointer (some ⟨P.cb, 0, none⟩)]]) ∧ Below w.heap.size w w' := dev_any b P L a 3 w h hk
theorem dev_4 (b : Nat) (P : Ph) (L : Lg) (a : Int) (w : World) (h : Bus w b P L) (hk : devN a = 4) : Calls Tryz.prog 129 #[.pointer (some ⟨b, 0, none⟩), .int .u32 a] w fun e w' => e = .returned (.agg #[.int .u32 4294967248, .func (.func 77) #[] #[.pointer (some ⟨P.cb, 0, none⟩)], .func (.func 78) #[] #[.pointer (some ⟨P.cb, 0, none⟩)]]) ∧ Below w.heap.size w w' := dev_any b P L a 4 w h hk
theorem dev_5 (b : Nat) (P : Ph) (L : Lg) (a : Int) (w : World) (h : Bus w b P L) (hk : devN a = 5) : Calls Tryz.prog 129 #[.pointer (some ⟨b, 0, none⟩), .int .u32 a] w fun e w' => e = .returned (.agg #[.int .u32 4294967252, .func (.func 79) #[] #[.pointer (some ⟨P.cb, 0, none⟩)], .func (.func 80) #[.pointer (some ⟨b, 0, none⟩)] #[]]) ∧ Below w.heap.size w w' := dev_any b P L a 5 w h hk
theorem dev_6 (b : Nat) (P : Ph) (L : Lg) (a : Int) (w : World) (h : Bus w b P L) (hk : devN a = 6) : Calls Tryz.prog 129 #[.pointer (some ⟨b, 0, none⟩), .int .u32 a] w fun e w' => e = .returned (.agg #[.int .u32 4294967256, .func (.func 81) #[] #[.pointer (some ⟨P.cb, 0, none⟩)], .nilFunc]) ∧ Below w.heap.size w w' := dev_any b P L a 6 w h hk
theorem dev_7 (b : Nat) (P : Ph) (L : Lg) (a : Int) (w : World) (h : Bus w b P L) (hk : devN a = 7) : Calls Tryz.prog 129 #[.pointer (some ⟨b, 0, none⟩), .int .u32 a] w fun e w' => e = .returned (.agg #[.int .u32 0, .nilFunc, .nilFunc]) ∧ Below w.heap.size w w' := dev_any b P L a 7 w h hk
set_option maxHeartbeats 1000000 in
theorem loadWord_0 (b : Nat) (P : Ph) (L : Lg) (a : Int) (w : World) (h : Bus w b P L) (a0 : 0 ≤ a) (a1 : a ≤ 4294967295) (hw : isW a = false) (hk : devN a = 0) : Calls Tryz.prog 101 #[.pointer (some ⟨b, 0, none⟩), .int .u32 a] w fun e w' => e = .returned (.tuple #[.int .u32 L.tk, .int .i64 0]) ∧ ∃ P', Stp w b P w' P' L := by
  have H : Hid (Bus w b P L) := h
  have q1 := field_load
  have q2 := neq_load
  have q3 := neq_loadn
  clear h
  go_enter Tryz.func101, Tryz.ntmps101
  go_wp2_with (first
    | (go_at_call 46; refine (word_any b P L a _ H.out a0 a1).mono ?_; rw [hw]; rintro e w1 ⟨rfl, hb⟩; have HB : Hid (Below w.heap.size w w1) := hb; clear hb)
    | (go_at_call 129; refine (dev_0 b P L a _ (H.out.below HB.out) hk).mono ?_; rintro e w2 ⟨rfl, hb⟩; have HB2 : Hid (Below w.heap.size w w2) := HB.out.trans (hb.mono HB.out.size); clear hb)
    | (go_at_call 71; refine (timer_any b P L _ (H.out.below HB2.out)).mono ?_; rintro e w3 ⟨rfl, hw3⟩; obtain rfl := hw3.symm))
  go_ret2
  exact ⟨rfl, P, Stp.below H.out HB2.out⟩
set_option maxHeartbeats 1000000 in
theorem loadWord_2e (b : Nat) (P : Ph) (L : Lg) (a : Int) (w : World) (h : Bus w b P L) (a0 : 0 ≤ a) (a1 : a ≤ 4294967295) (hw : isW a = false) (hk : devN a = 2) (hI : L.I = []) : Calls Tryz.prog 101 #[.pointer (some ⟨b, 0, none⟩), .int .u32 a] w fun e w' => e = .returned (.tuple #[.int .u32 2, .int .i64 0]) ∧ ∃ P', Stp w b P w' P' L := by
  have H : Hid (Bus w b P L) := h
  have q1 := field_load
  have q2 := neq_load
  have q3 := neq_loadn
  clear h
  go_enter Tryz.func101, Tryz.ntmps101
  go_wp2_with (first
    | (go_at_call 46; refine (word_any b P L a _ H.out a0 a1).mono ?_; rw [hw]; rintro e w1 ⟨rfl, hb⟩; have HB : Hid (Below w.heap.size w w1) := hb; clear hb)
    | (go_at_call 129; refine (dev_2 b P L a _ (H.out.below HB.out) hk).mono ?_; rintro e w2 ⟨rfl, hb⟩; have HB2 : Hid (Below w.heap.size w w2) := HB.out.trans (hb.mono HB.out.size); clear hb)
    | (go_at_call 74; refine (status_any b P L _ (H.out.below HB2.out)).mono ?_; rw [if_pos hI]; rintro e w3 ⟨rfl, hw3⟩; obtain rfl := hw3.symm))
  go_ret2
  exact ⟨rfl, P, Stp.below H.out HB2.out⟩
set_option maxHeartbeats 1000000 in
theorem loadWord_2f (b : Nat) (P : Ph) (L : Lg) (a : Int) (w : World) (h : Bus w b P L) (a0 : 0 ≤ a) (a1 : a ≤ 4294967295) (hw : isW a = false) (hk : devN a = 2) (hI : ¬ L.I = []) : Calls Tryz.prog 101 #[.pointer (some ⟨b, 0, none⟩), .int .u32 a] w fun e w' => e = .returned (.tuple #[.int .u32 3, .int .i64 0]) ∧ ∃ P', Stp w b P w' P' L := by
  have H : Hid (Bus w b P L) := h
  have q1 := field_load
  have q2 := neq_load
  have q3 := neq_loadn
  clear h
  go_enter Tryz.func101, Tryz.ntmps101
  go_wp2_with (first
    | (go_at_call 46; refine (word_any b P L a _ H.out a0 a1).mono ?_; rw [hw]; rintro e w1 ⟨rfl, hb⟩; have HB : Hid (Below w.heap.size w w1) := hb; clear hb)
    | (go_at_call 129; refine (dev_2 b P L a _ (H.out.below HB.out) hk).mono ?_; rintro e w2 ⟨rfl, hb⟩; have HB2 : Hid (Below w.heap.size w w2) := HB.out.trans (hb.mono HB.out.size); clear hb)
    | (go_at_call 74; refine (status_any b P L _ (H.out.below HB2.out)).mono ?_; rw [if_neg hI]; rintro e w3 ⟨rfl, hw3⟩; obtain rfl := hw3.symm))
  go_ret2
  exact ⟨rfl, P, Stp.below H.out HB2.out⟩
set_option maxHeartbeats 1000000 in
theorem loadWord_3 (b : Nat) (P : Ph) (L : Lg) (a : Int) (w : World) (h : Bus w b P L) (a0 : 0 ≤ a) (a1 : a ≤ 4294967295) (hw : isW a = false) (hk : devN a = 3) : Calls Tryz.prog 101 #[.pointer (some ⟨b, 0, none⟩), .int .u32 a] w fun e w' => e = .returned (.tuple #[.int .u32 L.sc, .int .i64 0]) ∧ ∃ P', Stp w b P w' P' L := by
  have H : Hid (Bus w b P L) := h
  have q1 := field_load
  have q2 := neq_load
  have q3 := neq_loadn
  clear h
  go_enter Tryz.func101, Tryz.ntmps101
  go_wp2_with (first
    | (go_at_call 46; refine (word_any b P L a _ H.out a0 a1).mono ?_; rw [hw]; rintro e w1 ⟨rfl, hb⟩; have HB : Hid (Below w.heap.size w w1) := hb; clear hb)
    | (go_at_call 129; refine (dev_3 b P L a _ (H.out.below HB.out) hk).mono ?_; rintro e w2 ⟨rfl, hb⟩; have HB2 : Hid (Below w.heap.size w w2) := HB.out.trans (hb.mono HB.out.size); clear hb)
    | (go_at_call 75; refine (sector_any b P L _ (H.out.below HB2.out)).mono ?_; rintro e w3 ⟨rfl, hw3⟩; obtain rfl := hw3.symm))
  go_ret2
  exact ⟨rfl, P, Stp.below H.out HB2.out⟩
set_option maxHeartbeats 1000000 in
theorem loadWord_4 (b : Nat) (P : Ph) (L : Lg) (a : Int) (w : World) (h : Bus w b P L) (a0 : 0 ≤ a) (a1 : a ≤ 4294967295) (hw : isW a = false) (hk : devN a = 4) : Calls Tryz.prog 101 #[.pointer (some ⟨b, 0, none⟩), .int .u32 a] w fun e w' => e = .returned (.tuple #[.int .u32 L.ad, .int .i64 0]) ∧ ∃ P', Stp w b P w' P' L := by
  have H : Hid (Bus w b P L) := h
  have q1 := field_load
  have q2 := neq_load
  have q3 := neq_loadn
  clear h
  go_enter Tryz.func101, Tryz.ntmps101
  go_wp2_with (first
    | (go_at_call 46; refine (word_any b P L a _ H.out a0 a1).mono ?_; rw [hw]; rintro e w1 ⟨rfl, hb⟩; have HB : Hid (Below w.heap.size w w1) := hb; clear hb)
    | (go_at_call 129; refine (dev_4 b P L a _ (H.out.below HB.out) hk).mono ?_; rintro e w2 ⟨rfl, hb⟩; have HB2 : Hid (Below w.heap.size w w2) := HB.out.trans (hb.mono HB.out.size); clear hb)
    | (go_at_call 77; refine (address_any b P L _ (H.out.below HB2.out)).mono ?_; rintro e w3 ⟨rfl, hw3⟩; obtain rfl := hw3.symm))
  go_ret2
  exact ⟨rfl, P, Stp.below H.out HB2.out⟩
set_option maxHeartbeats 1000000 in
theorem loadWord_5 (b : Nat) (P : Ph) (L : Lg) (a : Int) (w : World) (h : Bus w b P L) (a0 : 0 ≤ a) (a1 : a ≤ 4294967295) (hw : isW a = false) (hk : devN a = 5) : Calls Tryz.prog 101 #[.pointer (some ⟨b, 0, none⟩), .int .u32 a] w fun e w' => e = .returned (.tuple #[.int .u32 L.cm, .int .i64 0]) ∧ ∃ P', Stp w b P w' P' L := by
  have H : Hid (Bus w b P L) := h
  have q1 := field_load
  have q2 := neq_load
  have q3 := neq_loadn
  clear h
  go_enter Tryz.func101, Tryz.ntmps101
  go_wp2_with (first
    | (go_at_call 46; refine (word_any b P L a _ H.out a0 a1).mono ?_; rw [hw]; rintro e w1 ⟨rfl, hb⟩; have HB : Hid (Below w.heap.size w w1) := hb; clear hb)
    | (go_at_call 129; refine (dev_5 b P L a _ (H.out.below HB.out) hk).mono ?_; rintro e w2 ⟨rfl, hb⟩; have HB2 : Hid (Below w.heap.size w w2) := HB.out.trans (hb.mono HB.out.size); clear hb)
    | (go_at_call 79; refine (commandL_any b P L _ (H.out.below HB2.out)).mono ?_; rintro e w3 ⟨rfl, hw3⟩; obtain rfl := hw3.symm))
  go_ret2
  exact ⟨rfl, P, Stp.below H.out HB2.out⟩
set_option maxHeartbeats 1000000 in
theorem loadWord_6 (b : Nat) (P : Ph) (L : Lg) (a : Int) (w : World) (h : Bus w b P L) (a0 : 0 ≤ a) (a1 : a ≤ 4294967295) (hw : isW a = false) (hk : devN a = 6) : Calls Tryz.prog 101 #[.pointer (some ⟨b, 0, none⟩), .int .u32 a] w fun e w' => e = .returned (.tuple #[.int .u32 L.n, .int .i64 0]) ∧ ∃ P', Stp w b P w' P' L := by
  have H : Hid (Bus w b P L) := h
  have q1 := field_load
  have q2 := neq_load
  have q3 := neq_loadn
  clear h
  go_enter Tryz.func101, Tryz.ntmps101
  go_wp2_with (first
    | (go_at_call 46; refine (word_any b P L a _ H.out a0 a1).mono ?_; rw [hw]; rintro e w1 ⟨rfl, hb⟩; have HB : Hid (Below w.heap.size w w1) := hb; clear hb)
    | (go_at_call 129; refine (dev_6 b P L a _ (H.out.below HB.out) hk).mono ?_; rintro e w2 ⟨rfl, hb⟩; have HB2 : Hid (Below w.heap.size w w2) := HB.out.trans (hb.mono HB.out.size); clear hb)
    | (go_at_call 81; refine (sectors_any b P L _ (H.out.below HB2.out)).mono ?_; rintro e w3 ⟨rfl, hw3⟩; obtain rfl := hw3.symm))
  go_ret2
  exact ⟨rfl, P, Stp.below H.out HB2.out⟩
set_option maxHeartbeats 1000000 in
theorem loadWord_1e (b : Nat) (P : Ph) (L : Lg) (a : Int) (w : World) (h : Bus w b P L) (a0 : 0 ≤ a) (a1 : a ≤ 4294967295) (hw : isW a = false) (hk : devN a = 1) (hI : L.I = []) : Calls Tryz.prog 101 #[.pointer (some ⟨b, 0, none⟩), .int .u32 a] w fun e w' => e = .returned (.tuple #[.int .u32 0, .int .i64 2]) ∧ ∃ P', Stp w b P w' P' L := by
  have H : Hid (Bus w b P L) := h
  have q1 := field_load
  have q2 := neq_load
  have q3 := neq_loadn
  clear h
  go_enter Tryz.func101, Tryz.ntmps101
  go_wp2_with (first
    | (go_at_call 46; refine (word_any b P L a _ H.out a0 a1).mono ?_; rw [hw]; rintro e w1 ⟨rfl, hb⟩; have HB : Hid (Below w.heap.size w w1) := hb; clear hb)
    | (go_at_call 129; refine (dev_1 b P L a _ (H.out.below HB.out) hk).mono ?_; rintro e w2 ⟨rfl, hb⟩; have HB2 : Hid (Below w.heap.size w w2) := HB.out.trans (hb.mono HB.out.size); clear hb)
    | (go_at_call 72; refine (take_none b P L _ (H.out.below HB2.out) hI).mono ?_; rintro e w3 ⟨rfl, hw3⟩; obtain rfl := hw3.symm))
  go_ret2
  exact ⟨rfl, P, Stp.below H.out HB2.out⟩
set_option maxHeartbeats 1000000 in
theorem loadWord_1f (b : Nat) (P : Ph) (L : Lg) (a : Int) (w : World) (h : Bus w b P L) (a0 : 0 ≤ a) (a1 : a ≤ 4294967295) (hw : isW a = false) (hk : devN a = 1) (x : Int) (r : List Int) (hI : L.I = x :: r) : Calls Tryz.prog 101 #[.pointer (some ⟨b, 0, none⟩), .int .u32 a] w fun e w' => e = .returned (.tuple #[.int .u32 x, .int .i64 0]) ∧ ∃ P', Stp w b P w' P' { L with I := r } := by
  have H : Hid (Bus w b P L) := h
  have q1 := field_load
  have q2 := neq_load
  have q3 := neq_loadn
  clear h
  go_enter Tryz.func101, Tryz.ntmps101
  go_wp2_with (first
    | (go_at_call 46; refine (word_any b P L a _ H.out a0 a1).mono ?_; rw [hw]; rintro e w1 ⟨rfl, hb⟩; have HB : Hid (Below w.heap.size w w1) := hb; clear hb)
    | (go_at_call 129; refine (dev_1 b P L a _ (H.out.below HB.out) hk).mono ?_; rintro e w2 ⟨rfl, hb⟩; have HB2 : Hid (Below w.heap.size w w2) := HB.out.trans (hb.mono HB.out.size); clear hb)
    | (go_at_call 72; refine (take_one b P L _ x r (H.out.below HB2.out) hI).mono ?_; rintro e w3 ⟨rfl, P', hS⟩))
  go_ret2
  exact ⟨rfl, P', (Stp.below H.out HB2.out).trans hS⟩
set_option maxHeartbeats 1000000 in
theorem loadWord_7 (b : Nat) (P : Ph) (L : Lg) (a : Int) (w : World) (h : Bus w b P L) (a0 : 0 ≤ a) (a1 : a ≤ 4294967295) (hw : isW a = false) (hk : devN a = 7) : Calls Tryz.prog 101 #[.pointer (some ⟨b, 0, none⟩), .int .u32 a] w fun e w' => e = .returned (.tuple #[.int .u32 0, .int .i64 1]) ∧ ∃ P', Stp w b P w' P' L := by
  have H : Hid (Bus w b P L) := h
  have q1 := field_load
  have q2 := neq_load
  have q3 := neq_loadn
  clear h
  go_enter Tryz.func101, Tryz.ntmps101
  go_wp2_with (first
    | (go_at_call 46; refine (word_any b P L a _ H.out a0 a1).mono ?_; rw [hw]; rintro e w1 ⟨rfl, hb⟩; have HB : Hid (Below w.heap.size w w1) := hb; clear hb)
    | (go_at_call 129; refine (dev_7 b P L a _ (H.out.below HB.out) hk).mono ?_; rintro e w2 ⟨rfl, hb⟩; have HB2 : Hid (Below w.heap.size w w2) := HB.out.trans (hb.mono HB.out.size); clear hb))
  go_ret2
  exact ⟨rfl, P, Stp.below H.out HB2.out⟩
theorem loadWord_any (b : Nat) (P : Ph) (L : Lg) (a : Int) (w : World) (h : Bus w b P L) (a0 : 0 ≤ a) (a1 : a ≤ 4294967295) : Calls Tryz.prog 101 #[.pointer (some ⟨b, 0, none⟩), .int .u32 a] w fun e w' => e = .returned (.tuple #[.int .u32 (L.load a).1.1, .int .i64 (L.load a).1.2]) ∧ ∃ P', Stp w b P w' P' (L.load a).2 := by
  unfold Lg.load
  by_cases hw : isW a = true
  · rw [if_pos hw]; exact loadWord_mem b P L a w h a0 a1 hw
  · rw [if_neg hw]
    have hw : isW a = false := by simpa using hw
    have h7 := devN_le a
    have hk : devN a = 0 ∨ devN a = 1 ∨ devN a = 2 ∨ devN a = 3 ∨ devN a = 4 ∨ devN a = 5 ∨ devN a = 6 ∨ devN a = 7 := by omega
    rcases hk with hk | hk | hk | hk | hk | hk | hk | hk <;> rw [hk]
    · exact loadWord_0 b P L a w h a0 a1 hw hk
    · unfold Lg.dev
      rcases hI : L.I with _ | ⟨x, r⟩
      · exact loadWord_1e b P L a w h a0 a1 hw hk hI
      · exact loadWord_1f b P L a w h a0 a1 hw hk x r hI
    · unfold Lg.dev
      by_cases hI : L.I = []
      · rw [if_pos hI]; exact loadWord_2e b P L a w h a0 a1 hw hk hI
      · rw [if_neg hI]; exact loadWord_2f b P L a w h a0 a1 hw hk hI
    · exact loadWord_3 b P L a w h a0 a1 hw hk
    · exact loadWord_4 b P L a w h a0 a1 hw hk
    · exact loadWord_5 b P L a w h a0 a1 hw hk
    · exact loadWord_6 b P L a w h a0 a1 hw hk
    · exact loadWord_7 b P L a w h a0 a1 hw hk
end Go.Proofs.YteegkhnikcioiaaGreatDoor
