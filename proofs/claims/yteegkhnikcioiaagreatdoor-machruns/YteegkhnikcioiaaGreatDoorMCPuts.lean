/-
  What the document's Exec calls: the same plain answers as the program's.
  Stores into a row that was laid whole.
-/
import Derived.Test.YteegkhnikcioiaaGreatDoorMCEnds
import Derived.Test.YteegkhnikcioiaaGreatDoorMCLaidR
import Derived.Laws.Bits64b
import Derived.Laws.BitsAllLaws
namespace Go.Proofs.YteegkhnikcioiaaGreatDoor.Cpu
open Go.ChangeShapes Go.WideShapes Go.ChangeAt Go.RowKit
attribute [local go_sem ↓] loadCpu_seal storeCpu_seal loadIn_seal storeIn_seal
attribute [local go_sem] loadCpu_run storeCpu_run loadIn_run storeIn_run rowAt_at rowAt_past rowAt_drew rowAt_drewN roomCpu_new roomIn_new roomAt_old roomAt_drew roomAt_drewN putCpu_new putIn_new Cp.zero_fold In.fold putRow_past rowCpu_put rowIn_put size_put putRow_drew putRow_drewN alloc_drewN setCell_drewN Cp.at16 Cp.at17 Cp.at18 Cp.at19 Cp.at20 Cp.at21 Cp.size Cp.set16 Cp.set17 Cp.set18 Cp.set19 Cp.set20 Cp.set21 In.at0 In.at1 In.at2 In.at3 In.at4 In.at5 In.at6 In.at7 In.size In.set0 In.set1 In.set2 In.set3 In.ne Cp.ne In.set4 In.set5 In.set6 In.set7
attribute [local go_sem ↓] eqlCpu_seal
set_option linter.unusedVariables false

theorem number_any (a : Int) (w : World) (h0 : 0 ≤ a) (h1 : a ≤ 4294967295) : Calls Tryz.prog 117 #[.int .u32 a] w fun e w' => e = .returned (.int .i64 (sg a)) ∧ w' = w := by
  go_enter Tryz.func117, Tryz.ntmps117
  go_wp2
  all_goals go_ret
  all_goals exact ⟨ret_int (by unfold sg; split <;> omega), rfl⟩
theorem rflag_or (c : Cp) : bits .or .u32 (bits .or .u32 (bits .or .u32 (bit c.N * 2147483648) (bit c.Z * 1073741824)) (bit c.C * 536870912)) (bit c.V * 268435456) = c.flagV := by
  have h1 := bit_bd c.N
  have h2 := bit_bd c.Z
  have h3 := bit_bd c.C
  have h4 := bit_bd c.V
  rw [or_add (bit c.N * 2147483648) (bit c.Z * 1073741824) 31 (by omega) (by omega) (by omega) (by omega) (by omega) (by omega),
    or_add _ (bit c.C * 536870912) 30 (by omega) (by omega) (by omega) (by omega) (by omega) (by omega),
    or_add _ (bit c.V * 268435456) 29 (by omega) (by omega) (by omega) (by omega) (by omega) (by omega)]
  rfl
theorem rflags_any (c : Cp) (w : World) : Calls Tryz.prog 144 #[.agg c.cells] w fun e w' => e = .returned (.int .u32 c.flagV) ∧ Below w.heap.size w w' := by
  have HF : Hid (_ = _) := rflag_or c
  have h1 := bit_bd c.N
  have h2 := bit_bd c.Z
  have h3 := bit_bd c.C
  have h4 := bit_bd c.V
  go_enter Tryz.func144, Tryz.ntmps144
  go_wp2
  go_quiet ((go_at_call 112; exact Calls.quiet_of_same (rbit_any _ _)))
  go_wp2
  go_ret
  exact ⟨ret_int HF.out, bdrewN ((Below.refl _ _).alloc (Nat.le_refl _) _) _⟩
/-- A register gets a word, and N and Z; PC stays. -/
def Cp.got (c : Cp) (a x : Int) : Cp := { c.wrote a x with PC := c.PC }
theorem hi_bit (x : Int) (h0 : 0 ≤ x) (h1 : x ≤ 4294967295) : (fldI x 31 1 == 1) = decide (2147483648 ≤ x) := by
  have e : fldI x 31 1 = x / 2147483648 % 2 := by unfold fldI; simp
  rw [e, Bool.eq_iff_iff]
  simp
  omega
theorem got_is (c : Cp) (a x : Int) (h0 : 0 ≤ x) (h1 : x ≤ 4294967295) : c.got a x = { c.setR a.toNat x with N := decide (2147483648 ≤ x), Z := x == 0 } := by
  unfold Cp.got Cp.wrote
  rw [hi_bit x h0 h1]
  rfl
theorem gets_any (c : Cp) (a x : Int) (w : World) (h0 : 0 ≤ a) (h1 : a < 16) (h2 : 0 ≤ x) (h3 : x ≤ 4294967295) :
    Calls Tryz.prog 93 #[.agg c.cells, .int .i64 a, .int .u32 x] w fun e w' => e = .returned (.agg (c.got a x).cells) ∧ Below w.heap.size w w' := by
  rw [got_is c a x h2 h3]
  have hs := Cp.setAt c a.toNat x (by omega)
  have hr := Cp.atR c a.toNat (by omega)
  go_enter Tryz.func93, Tryz.ntmps93
  go_wp2
  refine ret_cell1 rfl rfl (loadCpu_row (c := { c.setR a.toNat x with N := decide (2147483648 ≤ x), Z := x == 0 }) ?_) rfl ⟨rfl, ?_⟩
  · simp [go_sem]
  · go_grown
set_option maxHeartbeats 1000000 in
theorem rmoved_any (c : Cp) (i : In) (x : Int) (w : World) (x0 : 0 ≤ x) (x1 : x ≤ 4294967295) (hF : i.F = 0 ∨ i.F = 1 ∧ (i.U = true → x = i.N)) : Calls Tryz.prog 116 #[.agg c.cells, .agg i.cells, .int .u32 x] w fun e w' => e = .returned (.int .u32 (c.movV i x)) ∧ Below w.heap.size w w' := by
  cases hU : i.U
  · have e : c.movV i x = x := by simp [Cp.movV, hU]
    rw [e]
    go_enter Tryz.func116, Tryz.ntmps116
    go_wp2
    go_ret
    exact ⟨rfl, by go_grown⟩
  · rcases hF with hF | ⟨hF, hx⟩
    · cases hV : i.V
      · have e : c.movV i x = c.H := by simp [Cp.movV, hU, hF, hV]
        rw [e]
        go_enter Tryz.func116, Tryz.ntmps116
        go_wp2
        go_ret
        exact ⟨rfl, by go_grown⟩
      · have e : c.movV i x = c.flagV := by simp [Cp.movV, hU, hF, hV]
        rw [e]
        go_enter Tryz.func116, Tryz.ntmps116
        go_wp2_with (go_at_call 144; refine (rflags_any c _).mono ?_; rintro e w1 ⟨rfl, hb⟩)
        go_ret
        exact ⟨rfl, Below.trans (by go_grown) (hb.mono (by simp; omega))⟩
    · have e : c.movV i x = x * 65536 % 4294967296 := by simp [Cp.movV, hU, hF]
      have hx := hx hU
      subst hx
      rw [e]
      go_enter Tryz.func116, Tryz.ntmps116
      go_wp2
      go_ret
      exact ⟨by first | rfl | (simp; done) | (refine ret_int ?_; omega), by go_grown⟩
theorem or64 (a b : Int) (a0 : 0 ≤ a) (a1 : a ≤ 4294967295) (b0 : 0 ≤ b) (b1 : b ≤ 4294967295) : bits .or .u64 (a * 4294967296) b = a * 4294967296 + b := by
  obtain ⟨m, rfl⟩ := Int.eq_ofNat_of_zero_le a0
  obtain ⟨n, rfl⟩ := Int.eq_ofNat_of_zero_le b0
  have e1 : (m : Int) * 4294967296 = ((m * 4294967296 : Nat) : Int) := by simp
  have hn : n < 2 ^ 32 := by omega
  rw [e1, bits_or_u64_nat _ _ (by omega) (by omega)]
  have := Nat.two_pow_add_eq_or_of_lt hn m
  rw [Nat.mul_comm m, show (4294967296 : Nat) = 2 ^ 32 by decide, ← this]
  simp
theorem turn_ror (a : Int) (k : Nat) (h0 : 0 ≤ a) (h1 : a ≤ 4294967295) (hk : k ≤ 31) : (a * 4294967296 + a) / 2 ^ k % 4294967296 = rorK a k := by
  have hp : (4294967296 : Int) = 2 ^ (32 - k) * 2 ^ k := by rw [← Int.pow_add, show 32 - k + k = 32 by omega]; rfl
  have k0 : (0 : Int) < 2 ^ k := Int.pow_pos (by decide)
  have j0 : (0 : Int) < 2 ^ (32 - k) := Int.pow_pos (by decide)
  have e1 : (a * 4294967296 + a) / 2 ^ k = a * 2 ^ (32 - k) + a / 2 ^ k := by
    rw [show a * 4294967296 + a = a + (a * 2 ^ (32 - k)) * 2 ^ k by rw [Int.mul_assoc, ← hp]; omega, Int.add_mul_ediv_right _ _ (by omega)]
    omega
  have e2 : a * 2 ^ (32 - k) = a / 2 ^ k * 4294967296 + a % 2 ^ k * 2 ^ (32 - k) := by
    have := Int.mul_ediv_add_emod a (2 ^ k)
    calc a * 2 ^ (32 - k) = (2 ^ k * (a / 2 ^ k) + a % 2 ^ k) * 2 ^ (32 - k) := by rw [this]
      _ = a / 2 ^ k * 4294967296 + a % 2 ^ k * 2 ^ (32 - k) := by
        rw [Int.add_mul, hp, Int.mul_comm (2 ^ k) (a / 2 ^ k), Int.mul_assoc, Int.mul_comm (2 ^ k)]
  have b := rorK_bd a k h0 h1 hk
  unfold rorK at b ⊢
  rw [e1, e2]
  generalize a % 2 ^ k * 2 ^ (32 - k) = y at *
  generalize a / 2 ^ k = z at *
  omega
theorem turned_any (a n : Int) (w : World) (h0 : 0 ≤ a) (h1 : a ≤ 4294967295) (g0 : 0 ≤ n) (g1 : n ≤ 31) : Calls Tryz.prog 118 #[.int .u32 a, .int .i64 n] w fun e w' => e = .returned (.int .u32 (rorK a n.toNat)) ∧ w' = w := by
  have H : Hid (bits .or .u64 (a * 4294967296) a / 2 ^ n.toNat % 4294967296 = rorK a n.toNat) := by
    show _ = _
    rw [or64 a a h0 h1 h0 h1]
    exact turn_ror a n.toNat h0 h1 (by omega)
  have g2 : ¬ 64 ≤ n := by omega
  go_enter Tryz.func118, Tryz.ntmps118
  go_wp2
  go_ret
  exact ⟨ret_int H.out, rfl⟩
end Go.Proofs.YteegkhnikcioiaaGreatDoor.Cpu

namespace Go.Proofs.YteegkhnikcioiaaGreatDoor.Cpu
open Go.ChangeShapes Go.WideShapes Go.ChangeAt Go.RowKit
attribute [local go_sem ↓] loadCpu_seal storeCpu_seal loadIn_seal storeIn_seal
attribute [local go_sem] loadCpu_run storeCpu_run loadIn_run storeIn_run rowAt_at rowAt_past rowAt_drew rowAt_drewN roomCpu_new roomIn_new roomAt_old roomAt_drew roomAt_drewN putCpu_new putIn_new Cp.zero_fold In.fold putRow_past rowCpu_put rowIn_put size_put putRow_drew putRow_drewN alloc_drewN setCell_drewN Cp.at16 Cp.at17 Cp.at18 Cp.at19 Cp.at20 Cp.at21 Cp.size Cp.set16 Cp.set17 Cp.set18 Cp.set19 Cp.set20 Cp.set21 In.at0 In.at1 In.at2 In.at3 In.at4 In.at5 In.at6 In.at7 In.size In.set0 In.set1 In.set2 In.set3 In.ne Cp.ne In.set4 In.set5 In.set6 In.set7
attribute [local go_sem ↓] eqlCpu_seal
set_option linter.unusedVariables false

theorem setCells_only (b : Nat) : ∀ (vs : List Value) (k : Nat) (w : World), w.setCells b k vs = { w with heap := (w.setCells b k vs).heap }
  | [], _, _ => rfl
  | v :: r, k, w => by
    rw [World.setCells]
    have := setCells_only b r (k + 1) (w.setCell ⟨b, k, none⟩ v)
    rw [this]
    rfl
theorem setCells_far (b x : Nat) (hx : x ≠ b) : ∀ (vs : List Value) (k : Nat) (w : World), (w.setCells b k vs).heap[x]? = w.heap[x]?
  | [], _, _ => rfl
  | v :: r, k, w => by rw [World.setCells, setCells_far b x hx r (k + 1) _]; exact heap_setCell_other _ _ _ _ _ hx
theorem room_blk {w : World} {p n : Nat} (hm : roomAt w p n = true) : ∃ Y t, w.heap[p]? = some (.cells Y t (0, 0)) ∧ Y.size = n := by
  unfold roomAt at hm
  split at hm
  case h_2 => cases hm
  rename_i Y t fr hY
  simp only [Bool.and_eq_true, beq_iff_eq] at hm
  exact ⟨Y, t, by rw [hY, hm.2], hm.1⟩
theorem put_blk {X : World} {b : Nat} {Z : Array Value} (h : roomAt X b Z.size = true) : ∃ t, (putRow X b Z).heap[b]? = some (.cells Z t (0, 0)) ∧ X.heap[b]? ≠ none := by
  obtain ⟨Y, t, hY, hs⟩ := room_blk h
  refine ⟨t, ?_, by rw [hY]; simp⟩
  rw [putRow_eq, setCells_heap _ _ _ _ hY, putList_all Z Y hs]
/-- A world that is another but for one block, which holds that row, is that with the row laid. -/
theorem world_put {X Y : World} {b : Nat} {Z : Array Value} {t : TypeId} (h : roomAt X b Z.size = true) (e : Y = { X with heap := Y.heap }) (hx : ∀ x, x ≠ b → Y.heap[x]? = X.heap[x]?) (hb : ∃ W, X.heap[b]? = some (.cells W t (0, 0))) (hy : Y.heap[b]? = some (.cells Z t (0, 0))) : Y = putRow X b Z := by
  obtain ⟨W, hW⟩ := hb
  obtain ⟨W', t', hW', hs⟩ := room_blk h
  rw [hW] at hW'
  cases hW'
  have e2 : (putRow X b Z) = { X with heap := (putRow X b Z).heap } := by rw [putRow_eq]; exact setCells_only b _ _ _
  have eh : Y.heap = (putRow X b Z).heap := by
    apply Array.ext_getElem?
    intro x
    by_cases hxb : x = b
    · subst hxb
      rw [hy, putRow_eq, setCells_heap _ _ _ _ hW, putList_all Z W hs]
    · rw [hx x hxb, putRow_eq, setCells_far b x hxb]
  rw [e, e2, eh]
theorem put_set {X : World} {b j : Nat} {c d : Array Value} {v : Value} (h : roomAt X b c.size = true) (hd : c.setIfInBounds j v = d) : (putRow X b c).setCell ⟨b, j, none⟩ v = putRow X b d := by
  obtain ⟨Y, t, hY, hs⟩ := room_blk h
  have hsd : d.size = c.size := by rw [← hd]; simp
  have e1 : (putRow X b c).heap[b]? = some (.cells c t (0, 0)) := by rw [putRow_eq, setCells_heap _ _ _ _ hY, putList_all c Y hs]
  refine world_put (t := t) (by rw [hsd]; exact h) ?_ (fun x hx => ?_) ⟨Y, hY⟩ ?_
  · rw [putRow_eq, setCells_only b _ _ X]; rfl
  · rw [heap_setCell_other _ _ _ _ _ hx, putRow_eq, setCells_far b x hx]
  · rw [Go.Joins.block_setCell e1 v, hd]
theorem row_set {X : World} {b j : Nat} {c d : Array Value} {v : Value} (h : roomAt X b c.size = true) (hr : rowAt X b = some c) (hd : c.setIfInBounds j v = d) : X.setCell ⟨b, j, none⟩ v = putRow X b d := by
  obtain ⟨Y, t, hY, hs⟩ := room_blk h
  have hsd : d.size = c.size := by rw [← hd]; simp
  have hc : Y = c := by unfold rowAt at hr; rw [hY] at hr; exact Option.some.inj hr
  subst hc
  refine world_put (t := t) (by rw [hsd]; exact h) rfl (fun x hx => heap_setCell_other _ _ _ _ _ hx) ⟨Y, hY⟩ ?_
  rw [Go.Joins.block_setCell hY v, hd]
theorem put_cell (X : World) (b j : Nat) (c : Cp) (h : roomAt X b 22 = true) : (putRow X b c.cells).cell? ⟨b, j, none⟩ = c.cells[j]? := rowAt_cell (rowCpu_put X b c h) j
theorem put_room (X : World) (b b' n : Nat) (c : Cp) (h : roomAt X b 22 = true) : roomAt (putRow X b c.cells) b' n = roomAt X b' n := by
  obtain ⟨Y, t, hY, hs⟩ := room_blk h
  by_cases e : b' = b
  · subst e
    have e1 : (putRow X b' c.cells).heap[b']? = some (.cells c.cells t (0, 0)) := by rw [putRow_eq, setCells_heap _ _ _ _ hY, putList_all c.cells Y hs]
    unfold roomAt
    rw [e1, hY]
    simp [hs, Cp.size]
  · unfold roomAt
    rw [putRow_eq, setCells_far b b' e]
theorem put_froz (X : World) (b j : Nat) (c : Cp) (h : roomAt X b 22 = true) (hj : j < 22) : (putRow X b c.cells).frozen? ⟨b, j, none⟩ = false := by
  have := (room_there (w := putRow X b c.cells) (b := b) (n := 22) (by rw [put_room X b b 22 c h]; exact h) j hj).2
  simpa using this
theorem put_row_far (X : World) (b b' : Nat) (Z : Array Value) (hb : b' ≠ b) : rowAt (putRow X b Z) b' = rowAt X b' := by
  unfold rowAt
  rw [putRow_eq, setCells_far b b' hb]
theorem put_cell_far (X : World) (b b' j : Nat) (Z : Array Value) (hb : b' ≠ b) : (putRow X b Z).cell? ⟨b', j, none⟩ = X.cell? ⟨b', j, none⟩ := by
  unfold World.cell?
  rw [putRow_eq, setCells_far b b' hb]
theorem put_froz_far (X : World) (b b' j : Nat) (Z : Array Value) (hb : b' ≠ b) : (putRow X b Z).frozen? ⟨b', j, none⟩ = X.frozen? ⟨b', j, none⟩ := by
  unfold World.frozen?
  rw [putRow_eq, setCells_far b b' hb]
theorem put16 (X : World) (b : Nat) (c : Cp) (v : Int) (h : roomAt X b 22 = true) : (putRow X b c.cells).setCell ⟨b, 16, none⟩ (.int .u32 v) = putRow X b ({ c with H := v } : Cp).cells := put_set h (Cp.set16 c v)
theorem put19 (X : World) (b : Nat) (c : Cp) (v : Bool) (h : roomAt X b 22 = true) : (putRow X b c.cells).setCell ⟨b, 19, none⟩ (.bool v) = putRow X b ({ c with C := v } : Cp).cells := put_set h (Cp.set19 c v)
theorem put20 (X : World) (b : Nat) (c : Cp) (v : Bool) (h : roomAt X b 22 = true) : (putRow X b c.cells).setCell ⟨b, 20, none⟩ (.bool v) = putRow X b ({ c with V := v } : Cp).cells := put_set h (Cp.set20 c v)
theorem put21 (X : World) (b : Nat) (c : Cp) (v : Int) (h : roomAt X b 22 = true) : (putRow X b c.cells).setCell ⟨b, 21, none⟩ (.int .u32 v) = putRow X b ({ c with PC := v } : Cp).cells := put_set h (Cp.set21 c v)
theorem putR (X : World) (b a : Nat) (c : Cp) (v : Int) (h : roomAt X b 22 = true) (ha : a < 16) : (putRow X b c.cells).setCell ⟨b, a, none⟩ (.int .u32 v) = putRow X b (c.setR a v).cells := put_set h (Cp.setAt c a v ha)
end Go.Proofs.YteegkhnikcioiaaGreatDoor.Cpu
